import PyProof.Rows.All
import Wide.All
import OpenK.AllK
import Wide.FinOn
import Lean
import PyProof.EqAt
import PyProof.EqKinds
import PyProof.TupleCall
import PyProof.SetScanFacts
import PyProof.Rows.SetFrom
import PyProof.Rows.SortWalk
import PyProof.CollectWalk
import PyProof.DictWalks
import PySem.Challenge.RW_holdback_k26_whole_one_plank_at_last
set_option linter.all false
set_option maxRecDepth 100000
set_option maxHeartbeats 8000000
open PySem PySem.Spec PyProof.Rows
set_option Elab.async false
namespace L2
abbrev AN:=Sum Int Str
def IF:AN->Value->Bool
 | .inl k,v=>Value.isInt k v
 | .inr x,v=>Value.isStrOf x v
def fV(w:World):AN->Int
 | .inl k=>hashInt k
 | .inr x=>hashStr w x
theorem FL:∀ {k:AN} {v:Value},IF k v=true->(∃ i t,k=Sum.inl i/\v=Value.int i t)\/(∃ x t,k=Sum.inr x/\v=Value.str x t)
 | .inl i,v,h=>by
  obtain⟨t,e⟩:=Value.isInt_shape (k:=i) (v:=v) h
  exact .inl ⟨i,t,rfl,e⟩
 | .inr x,v,h=>by
  obtain⟨t,e⟩:=Value.isStrOf_shape (x:=x) (v:=v) h
  exact .inr ⟨x,t,rfl,e⟩
theorem fW(i:Int)(t:Tok):IF (.inl i) (.int i t)=true:=by simp[IF,Value.isInt]
theorem fX(x:Str)(t:Tok):IF (.inr x) (.str x t)=true:=by simp[IF,Value.isStrOf]
theorem fY(a b:Int):decide ((Sum.inl a:AN)=Sum.inl b)=(a == b):=by
 by_cases e:a=b
 ·subst e;simp
 ·have h:¬ (Sum.inl a:AN)=Sum.inl b:=λq=>e (Sum.inl.inj q)
  rw[decide_eq_false h]
  exact(beq_eq_false_iff_ne.mpr e).symm
theorem fZ(a b:Str):decide ((Sum.inr a:AN)=Sum.inr b)=decide (a=b):=by
 by_cases e:a=b
 ·subst e;simp
 ·have h:¬ (Sum.inr a:AN)=Sum.inr b:=λq=>e (Sum.inr.inj q)
  rw[decide_eq_false h,decide_eq_false e]
theorem f6(a:Int)(b:Str):decide ((Sum.inl a:AN)=Sum.inr b)=false:=decide_eq_false (λq=>nomatch q)
theorem f7(a:Str)(b:Int):decide ((Sum.inr a:AN)=Sum.inl b)=false:=decide_eq_false (λq=>nomatch q)
def C4(prog:Program)(w:World):PySem.KeyKind prog w AN where
 is:=IF
 hash:=fV w
 inj:=λv a b ha hb=>by
  rcases FL ha with⟨i,t,rfl,rfl⟩ | ⟨x,t,rfl,rfl⟩
  ·rcases FL hb with⟨j,u,rfl,e⟩ | ⟨y,u,rfl,e⟩
   ·injection e with e1 _;rw[e1]
   ·exact nomatch e
  ·rcases FL hb with⟨j,u,rfl,e⟩ | ⟨y,u,rfl,e⟩
   ·exact nomatch e
   ·injection e with e1 _;rw[e1]
 byValue:=λk v h=>by
  rcases FL h with⟨i,t,rfl,rfl⟩ | ⟨x,t,rfl,rfl⟩<;>rfl
 pyHash:=λhv h=>by
  rcases FL hv with⟨i,t,rfl,rfl⟩ | ⟨x,t,rfl,rfl⟩
  ·exact wpAny_pyHash_int h
  ·exact wpAny_pyHash_str h
 eqBool:=λhu hv h=>by
  rcases FL hu with⟨i,t,rfl,rfl⟩ | ⟨x,t,rfl,rfl⟩
  ·rcases FL hv with⟨j,u,rfl,rfl⟩ | ⟨y,u,rfl,rfl⟩
   ·rw[fY]at h;exact wpAny_eqBool_int h
   ·rw[f6]at h;exact SeqAt.EqAt.int_str i t y u _ _ _ _ h
  ·rcases FL hv with⟨j,u,rfl,rfl⟩ | ⟨y,u,rfl,rfl⟩
   ·rw[f7]at h;exact SeqAt.EqAt.str_int x t j u _ _ _ _ h
   ·rw[fZ]at h;exact wpAny_eqBool_str h
 «strs» :=λk x t v h=>by
  rcases FL h with⟨i,u,rfl,e⟩ | ⟨y,u,rfl,e⟩
  ·exact nomatch e
  ·injection e with e1 _
   subst e1
   cases v<;>rfl
theorem f8(prog:Program)(w:World)(i:Int)(t:Tok):(C4 prog w).is (.inl i) (.int i t)=true:=fW i t
theorem f9(prog:Program)(w:World)(x:Str)(t:Tok):(C4 prog w).is (.inr x) (.str x t)=true:=fX x t
end L2
namespace L2
inductive V where
 | non | bl (b:Bool) | int (i:Int) | str (x:Str) | byt (b:Array UInt8) | flt (b:UInt64) | ref (a:Addr) | ty (n:String)
 deriving DecidableEq
def RelV:V->Value->Prop
 | .non,u=>u=Value.none
 | .bl b,u=>u=Value.bool b
 | .int i,u=>∃ t,u=Value.int i t
 | .str x,u=>∃ t,u=Value.str x t
 | .byt b,u=>∃ t,u=Value.bytes b t
 | .flt b,u=>∃ t,u=Value.float b t
 | .ref a,u=>u=Value.ref a
 | .ty n,u=>u=Value.type n
abbrev Vals:List V->List Value->Prop:=Paired RelV
theorem Vals.length{xs:List V}{us:List Value}(r:Vals xs us):xs.length=us.length:=Paired.length r
theorem Vals.get:∀ {xs:List V} {us:List Value} {i:Nat} {x:V},Vals xs us->xs[i]? =some x->∃ u,us[i]? =some u/\RelV x u
 | _,_,_,_,.nil,e=>by simp at e
 | _,_,0,_,.cons r _,e=>by simp at e;subst e;exact⟨_,rfl,r⟩
 | _,_,i+1,x,.cons _ t,e=>by
  obtain⟨u,h1,h2⟩:=Vals.get (i:=i) (x:=x) t (by simpa using e)
  exact⟨u,by simpa using h1,h2⟩
theorem Vals.set{x:V}{u:Value}(r:RelV x u):∀ {xs:List V} {us:List Value} (i:Nat),Vals xs us->Vals (xs.set i x) (us.set i u)
 | _,_,_,.nil=>.nil
 | _,_,0,.cons _ t=>.cons r t
 | _,_,i+1,.cons q t=>.cons q (Vals.set r i t)
theorem Vals.append:∀ {xs ys:List V} {us ws:List Value},Vals xs us->Vals ys ws->Vals (xs++ys) (us++ws)
 | _,_,_,_,.nil,s=>s
 | _,_,_,_,.cons r t,s=>.cons r (Vals.append t s)
theorem Vals.take:∀ {xs:List V} {us:List Value} (n:Nat),Vals xs us->Vals (xs.take n) (us.take n)
 | _,_,0,_=>.nil
 | _,_,_+1,.nil=>.nil
 | _,_,n+1,.cons r t=>.cons r (Vals.take n t)
theorem Vals.drop:∀ {xs:List V} {us:List Value} (n:Nat),Vals xs us->Vals (xs.drop n) (us.drop n)
 | _,_,0,r=>r
 | _,_,_+1,.nil=>.nil
 | _,_,n+1,.cons _ t=>Vals.drop n t
theorem Vals.none_of:∀ {xs:List V} {us:List Value} {i:Nat},Vals xs us->xs[i]? =none->us[i]? =none:=λ{xs us i} r e=>by
 have h1:=r.length
 have h2:xs.length<=i:=List.getElem?_eq_none_iff.mp e
 exact List.getElem?_eq_none_iff.mpr (by omega)
def RelO:Option V->Option Value->Prop
 | some v,some u=>RelV v u
 | none,none=>True
 | _,_=>False
def KV{κ :Type}:List (κ × V)->List (κ × Value)->Prop:=Paired λ(p: κ × V) (q: κ × Value)=>p.1=q.1/\RelV p.2 q.2
def kV:AN->V
 | .inl i=>.int i
 | .inr x=>.str x
inductive HO where
 /-- a list -/
 | lst (xs:List V)
 /-- a tuple (never changes) -/
 | tup (xs:List V)
 /-- a dict whose keys are ints and texts;one whose keys are tuples of ints and texts (the empty one is both) -/
 | dK (kvs:List (AN × V)) | dT (kvs:List (List AN × V))
 /-- a set of ints: its members,its size -/
 | set (S:Int->Bool) (n:Nat)
 /-- an instance of the class at C,its dict at dx,its attributes -/
 | ins (C dx:Addr) (fs:List (Str × V))
 /-- the dict of the instance at x -/
 | own (x:Addr)
 /-- the dict of an exception -/
 | xd (fs:List (Str × V))
 /-- a bound method,f of x -/
 | met (f x:Addr)
 /-- a range object lo,lo+1,.. below hi -/
 | rng (lo hi:Int)
 /-- a thing that is known to the object (the script;a dict while a loop walks it): read,never written while it is so -/
 | frz (o:Obj) (u:HO)
 /-- a code object's table -/
 | tbl (ps:Array Value)
 /-- any other thing,by what is true of its one object (a def of one's own: SetO a S n:=HO.ext λh=>..) -/
 | ext (φ :Heap->Prop)
abbrev Hp:=Addr->Option HO
def upd(H:Hp)(a:Addr)(o:HO):Hp:=λb=>if b=a then some o else H b
theorem AK{H:Hp}{a:Addr}{o:HO}:upd H a o a=some o:=by unfold upd;rw[if_pos rfl]
theorem AI{H:Hp}{a b:Addr}{o:HO}(h:b≠a):upd H a o b=H b:=by unfold upd;rw[if_neg h]
theorem G3{H:Hp}{a:Addr}{o u:HO}:upd (upd H a o) a u=upd H a u:=by
 funext b;unfold upd;split<;>rfl
theorem A3{H:Hp}{a b:Addr}{o u:HO}(h:H a=some o)(h':H b=some u)(d:o≠u):a≠b:=by
 intro e;subst e;rw[h]at h';exact d (Option.some.inj h')
theorem AS{H:Hp}{a b:Addr}{o:HO}(h:H a=some o)(h':H b=none):a≠b:=by
 intro e;subst e;rw[h]at h';cases h'
section
variable(P:Program)(w:World)
def ObjOk(H:Hp)(h:Heap)(a:Addr):HO->Prop
 | .lst xs=>xs.length<=sizeLine/\∃ (its:List Value) (n:Nat),Vals xs its/\h.get? a=some { cls:=.type "list",data:=.seq its.toArray n }
 | .tup xs=>xs.length<=sizeLine/\∃ its:List Value,Vals xs its/\IsTup h a its.toArray
 | .dK kvs=>kvs.length<=sizeLine/\(a == sysModules)=false/\∃ vs,KV kvs vs/\h.DictOf (C4 P w) a vs
 | .dT kvs=>kvs.length<=sizeLine/\(a == sysModules)=false/\∃ xs:List (List AN × Addr × Value),
   Paired (λ(p:List AN × V) (q:List AN × Addr × Value)=>p.1=q.1/\H q.2.1=some (.tup (p.1.map kV))/\RelV p.2 q.2.2) kvs xs ∧
   ∃ o es ep,h.get? a=some o/\o.ExactDict/\o.data=.dict es ep/\es.toList=xs.map (entryOfKey (tupleKind (C4 P w)))/\(xs.map (·.1)).Nodup
 | .set S n=>h.SetOf (intKind P w) a S n
 | .ins C dx fs=>H dx=some (.own a)/\fs.length<=1000/\dx≠a/\h.get? a=some (W.instObj C dx) ∧
   ∃ mA,h.Ns1 dx mA/\(∀ f,RelO (fs.lookup f) (mA f))/\PySem.Within mA (fs.map (·.1))
 | .own _=>∃ o,h.get? a=some o
 | .xd fs=>∃ mA,h.Ns1 a mA/\∀ f,RelO (fs.lookup f) (mA f)
 | .rng lo hi=>∃ t u v,h.get? a=some { cls:=.type "range",data:=.fields #[.int lo t,.int hi u,.int 1 v] }
 | .frz o u=>h.get? a=some o/\ObjOk H h a u
 | .tbl ps=>h.get? a=some { cls:=.none,data:=.fields ps }
 | .met f x=>h.get? a=some (W.methodObj (.ref f) (.ref x))
 | .ext φ => φ h/\(∃ o,h.get? a=some o)/\∀ h1 h2:Heap,φ h1->(∀ o,h1.get? a=some o->h2.get? a=some o)-> φ h2
def HOk(H:Hp)(h:Heap):Prop:=∀ a o,H a=some o->ObjOk P w H h a o
end
section
variable{P:Program}{w:World}{H H':Hp}{h h':Heap}{a:Addr}{o:HO}
theorem ObjOk.lt(x:ObjOk P w H h a o):a<h.objs.size:=by
 cases o with
 | lst xs=>obtain⟨_,_,_,_,e⟩:=x;exact Heap.lt_size e
 | tup xs=>obtain⟨_,_,_,p⟩:=x;exact p.lt
 | dK kvs=>obtain⟨_,_,_,_,o,_,_,e,_⟩:=x;exact Heap.lt_size e
 | dT kvs=>obtain⟨_,_,_,_,o,_,_,e,_⟩:=x;exact Heap.lt_size e
 | set S n=>obtain⟨o,_,_,_,e,_⟩:=x;exact Heap.lt_size e
 | ins C dx fs=>obtain⟨_,_,_,e,_⟩:=x;exact Heap.lt_size e
 | own y=>obtain⟨_,e⟩:=x;exact Heap.lt_size e
 | xd fs=>obtain⟨_,⟨_,_,_,e,_⟩,_⟩:=x;exact Heap.lt_size e
 | rng lo hi=>obtain⟨_,_,_,e⟩:=x;exact Heap.lt_size e
 | frz ob u=>obtain⟨e,_⟩:=x;exact Heap.lt_size e
 | tbl ps=>exact Heap.lt_size (show h.get? a=some _ from x)
 | met f y=>exact Heap.lt_size (show h.get? a=some _ from x)
 | ext φ =>obtain⟨_,⟨_,e⟩,_⟩:=x;exact Heap.lt_size e
theorem Paired.mapP{α β :Type}{F G: α -> β ->Prop}:∀ {l₁:List α} {l₂:List β},Paired F l₁ l₂->(∀ a b,F a b->G a b)->Paired G l₁ l₂
 | _,_,.nil,_=>.nil
 | _,_,.cons r t,f=>.cons (f _ _ r) (Paired.mapP t f)
theorem ObjOk.stay(x:ObjOk P w H h a o)(k:∀ b u,(b=a\/H b=some (.own a))->h.get? b=some u->h'.get? b=some u)
  (ho:∀ b,H b=some (.own a)->H' b=some (.own a)) (ht:∀ b xs,H b=some (.tup xs)->H' b=some (.tup xs)):ObjOk P w H' h' a o:=by
 induction o with
 | lst xs=>obtain⟨z,its,n,r,e⟩:=x;exact⟨z,its,n,r,k _ _ (.inl rfl) e⟩
 | tup xs=>obtain⟨z,its,r,ob,e,c⟩:=x;exact⟨z,its,r,ob,k _ _ (.inl rfl) e,c⟩
 | dK kvs=>obtain⟨z,y,vs,r,ob,es,ep,e,c⟩:=x;exact⟨z,y,vs,r,ob,es,ep,k _ _ (.inl rfl) e,c⟩
 | dT kvs =>
  obtain⟨z,y,xs,r,ob,es,ep,e,c⟩:=x
  exact⟨z,y,xs,Paired.mapP r λp q z=>⟨z.1,ht _ _ z.2.1,z.2.2⟩,ob,es,ep,k _ _ (.inl rfl) e,c⟩
 | set S n=>obtain⟨ob,es,ep,t,e,c⟩:=x;exact⟨ob,es,ep,t,k _ _ (.inl rfl) e,c⟩
 | ins C dx fs =>
  obtain⟨d,z,ne,e,mA,⟨od,es,ep,e2,c⟩,r⟩:=x
  exact⟨ho _ d,z,ne,k _ _ (.inl rfl) e,mA,⟨od,es,ep,k _ _ (.inr d) e2,c⟩,r⟩
 | own y=>obtain⟨ob,e⟩:=x;exact⟨ob,k _ _ (.inl rfl) e⟩
 | xd fs=>obtain⟨mA,⟨od,es,ep,e,c⟩,r⟩:=x;exact⟨mA,⟨od,es,ep,k _ _ (.inl rfl) e,c⟩,r⟩
 | rng lo hi=>obtain⟨t,u,v,e⟩:=x;exact⟨t,u,v,k _ _ (.inl rfl) e⟩
 | frz ob u ih=>obtain⟨e,q⟩:=x;exact⟨k _ _ (.inl rfl) e,ih q⟩
 | tbl ps =>
  have e:h.get? a=some { cls:=.none,data:=.fields ps }:=x
  show h'.get? a=some { cls:=.none,data:=.fields ps }
  exact k a _ (.inl rfl) e
 | met f y =>
  have e:h.get? a=some (W.methodObj (.ref f) (.ref y)):=x
  show h'.get? a=some (W.methodObj (.ref f) (.ref y))
  exact k a _ (.inl rfl) e
 | ext φ =>obtain⟨p,⟨o,e⟩,st⟩:=x;exact⟨st _ _ p λo q=>k _ _ (.inl rfl) q,⟨o,k _ _ (.inl rfl) e⟩,st⟩
theorem HOk.lt(x:HOk P w H h)(e:H a=some o):a<h.objs.size:=(x a o e).lt
theorem HOk.fresh(x:HOk P w H h)(e:h.objs.size<=a):H a=none:=by
 cases q:H a with
 | none=>rfl
 | some u=>exact absurd (Nat.lt_of_lt_of_le (x.lt q) e) (Nat.lt_irrefl _)
theorem HOk.kept(x:HOk P w H h)(k:∀ b u,h.get? b=some u->h'.get? b=some u):HOk P w H h':=λa o e =>
 (x a o e).stay (λb u _ q=>k b u q) (λ_ q=>q) λ_ _ q=>q
theorem HOk.laid(x:HOk P w H h)(k:∀ b u,h.get? b=some u->h'.get? b=some u)(hp:h.objs.size<=a)(new:ObjOk P w (upd H a o) h' a o):HOk P w (upd H a o) h':=λb u e=>by
 have hn:=x.fresh hp
 by_cases hb:b=a
 ·subst hb;rw[AK]at e;cases e;exact new
 ·rw[AI hb]at e
  exact(x b u e).stay (λc v _ q=>k c v q) (λc q=>by rw[AI (AS q hn)];exact q) λc xs q=>by rw[AI (AS q hn)];exact q
end
def Rd(H:Hp)(a:Addr)(u:HO):Prop:=H a=some u\/∃ o,H a=some (.frz o u)
theorem Rd.of{H:Hp}{a:Addr}{u:HO}(h:H a=some u):Rd H a u:=.inl h
theorem Rd.ok{P:Program}{w:World}{H:Hp}{h:Heap}{a:Addr}{u:HO}(r:Rd H a u)(x:HOk P w H h):ObjOk P w H h a u:=by
 rcases r with r | ⟨o,r⟩
 ·exact x a u r
 ·obtain⟨_,q⟩:=x a _ r
  exact q
def KQ:Option HO->Prop
 | some (.lst _)=>True
 | some (.dK _)=>True
 | some (.dT _)=>True
 | some (.set _ _)=>True
 | some (.ins _ _ _)=>True
 | some (.ext _)=>True
 | _=>False
section
variable{P:Program}{w:World}{H:Hp}{h h':Heap}{x e:Addr}{o':HO}
theorem HOk.write(ok:HOk P w H h)(mu:KQ (H x))(he:e=x\/H e=some (.own x))(k:∀ b u,b≠e->h.get? b=some u->h'.get? b=some u)(heo:∃ u,h'.get? e=some u)
  (new:ObjOk P w (upd H x o') h' x o'):HOk P w (upd H x o') h':=λb u q=>by
 have nown:∀ c y,H c=some (.own y)->c≠x:=λc y r z=>by subst z;rw[r]at mu;exact mu
 have ntup:∀ c xs,H c=some (.tup xs)->c≠x:=λc xs r z=>by subst z;rw[r]at mu;exact mu
 by_cases hb:b=x
 ·subst hb;rw[AK]at q;cases q;exact new
 ·rw[AI hb]at q
  by_cases hbe:b=e
  ·have q':H b=some (.own x):=by
    rcases he with z | z
    ·exact absurd (hbe.trans z) hb
    ·rw[hbe];exact z
   rw[q]at q';cases q'
   obtain⟨v,hv⟩:=heo
   exact⟨v,by rw[hbe];exact hv⟩
  ·refine(ok b u q).stay (λc v hc r=>k c v ?_ r) (λc r=>by rw[AI (nown c b r)];exact r) λc xs r=>by rw[AI (ntup c xs r)];exact r
   rcases hc with rfl | hc
   ·exact hbe
   ·rintro rfl
    rcases he with z | z
    ·exact nown c b hc z
    ·rw[hc]at z;cases z;exact hb rfl
end
structure Un(fs ex:List Addr)(H H':Hp)(h h':Heap):Prop where
 keep:∀ b o,h.get? b=some o->H b=none->b∉fs->b∉ex->h'.get? b=some o
 slot:∀ b o,h.get? b=some o->H b=none->b∈fs->b∉ex->∃ sl,h'.get? b=some { o with slots:=sl }
 free:∀ b o,h.get? b=some o->H b=none->b∉ex->H' b=none
 there:∀ b o,h.get? b=some o->b∉ex->∃ o',h'.get? b=some o'
 tups:∀ b xs,H b=some (.tup xs)->H' b=some (.tup xs)
 frzs:∀ b o u,H b=some (.frz o u)->H' b=some (.frz o u)
 tbls:∀ b ps,H b=some (.tbl ps)->∃ more,H' b=some (.tbl (ps++more))
section
variable{fs fs' ex ex':List Addr}{H H1 H2:Hp}{h h1 h2 h':Heap}{a x e:Addr}{o:HO}
theorem Un.any(u:Un fs ex H H1 h h1){b:Addr}{ob:Obj}(q:h.get? b=some ob)(n:H b=none)(hx:b∉ex):∃ sl,h1.get? b=some { ob with slots:=sl }:=by
 by_cases hb:b∈fs
 ·exact u.slot b ob q n hb hx
 ·exact⟨ob.slots,u.keep b ob q n hb hx⟩
theorem Un.trans(a:Un fs ex H H1 h h1)(b:Un fs ex H1 H2 h1 h2):Un fs ex H H2 h h2 where
 keep:=λc ob q n hc hx=>b.keep c ob (a.keep c ob q n hc hx) (a.free c ob q n hx) hc hx
 slot:=λc ob q n hc hx=>by
  obtain⟨sl,e1⟩:=a.slot c ob q n hc hx
  obtain⟨sl',e2⟩:=b.slot c _ e1 (a.free c ob q n hx) hc hx
  exact⟨sl',e2⟩
 free:=λc ob q n hx=>by
  obtain⟨o',e1⟩:=a.there c ob q hx
  exact b.free c o' e1 (a.free c ob q n hx) hx
 there:=λc ob q hx=>by
  obtain⟨o',e1⟩:=a.there c ob q hx
  exact b.there c o' e1 hx
 tups:=λc xs q=>b.tups c xs (a.tups c xs q)
 frzs:=λc ob xs q=>b.frzs c ob xs (a.frzs c ob xs q)
 tbls:=λc ps q=>by
  obtain⟨m1,e1⟩:=a.tbls c ps q
  obtain⟨m2,e2⟩:=b.tbls c _ e1
  exact⟨m1++m2,by rw[e2,Array.append_assoc]⟩
theorem Un.kept(k:∀ b u,h.get? b=some u->h'.get? b=some u):Un fs ex H H h h' :=
 ⟨λb ob q _ _ _=>k b ob q,λb ob q _ _ _=>⟨ob.slots,k b ob q⟩,λ_ _ _ n _=>n,λb ob q _=>⟨ob,k b ob q⟩,λ_ _ q=>q,λ_ _ _ q=>q,λ_ ps q=>⟨#[],by rw[q];simp⟩⟩
theorem Un.refl:Un fs ex H H h h:=Un.kept λ_ _ q=>q
theorem Un.laid(k:∀ b u,h.get? b=some u->h'.get? b=some u)(hp:h.objs.size<=a)(hn:H a=none):Un fs ex H (upd H a o) h h' where
 keep:=λb u q _ _ _=>k b u q
 slot:=λb u q _ _ _=>⟨u.slots,k b u q⟩
 free:=λb u q n _=>by rw[AI (Nat.ne_of_lt (Nat.lt_of_lt_of_le (Heap.lt_size q) hp))];exact n
 there:=λb u q _=>⟨u,k b u q⟩
 tups:=λb xs q=>by rw[AI (AS q hn)];exact q
 frzs:=λb u xs q=>by rw[AI (AS q hn)];exact q
 tbls:=λb ps q=>⟨#[],by rw[AI (AS q hn),q];simp⟩
theorem Un.write(mu:KQ (H x))(he:e=x\/H e=some (.own x))(k:∀ b u,b≠e->h.get? b=some u->h'.get? b=some u)(heo:∃ u,h'.get? e=some u):Un fs ex H (upd H x o) h h':=by
 have hx:∀ b,H b=none->b≠x:=λb n z=>by subst z;rw[n]at mu;exact mu
 have hb:∀ b,H b=none->b≠e:=λb n z=>by
  subst z
  rcases he with r | r
  ·exact hx b n r
  ·rw[n]at r;cases r
 have hm:∀ b u,H b=some u->¬ KQ (some u)->b≠x:=λb u q nm z=>by subst z;rw[q]at mu;exact nm mu
 refine⟨λb u q n _ _=>k b u (hb b n) q,λb u q n _ _=>⟨u.slots,k b u (hb b n) q⟩,λb u q n _=>by rw[AI (hx b n)];exact n,λb u q _=> ?_,
  λb xs q=>by rw[AI (hm b _ q λz=>z)];exact q,λb u xs q=>by rw[AI (hm b _ q λz=>z)];exact q,λb ps q=>⟨#[],by rw[AI (hm b _ q λz=>z),q];simp⟩⟩
 by_cases hbe:b=e
 ·subst hbe;exact heo
 ·exact⟨u,k b u hbe q⟩
theorem Un.mono(u:Un fs ex H H1 h h1)(hs:∀ b∈fs,b∈fs')(hx:∀ b∈ex,b∈ex'):Un fs' ex' H H1 h h1 :=
 ⟨λb ob q n hb he=>u.keep b ob q n (λz=>hb (hs b z)) λz=>he (hx b z),λ_ _ q n _ he=>u.any q n λz=>he (hx _ z),λb ob q n he=>u.free b ob q n λz=>he (hx b z),λb ob q he=>u.there b ob q λz=>he (hx b z),u.tups,u.frzs,u.tbls⟩
end
def ME(h:Heap)(H:Hp):List Addr:=(List.range h.objs.size).filter λa=>(H a).isSome
def FM(h:Heap)(H:Hp):Heap:=W.hideAll h (ME h H)
theorem gA(h:Heap)(H:Hp):(FM h H).objs.size=h.objs.size:=W.hideAll_size _ _
theorem gC{h:Heap}{H:Hp}{b:Addr}{o:Obj}(e:h.get? b=some o)(n:H b=none):(FM h H).get? b=some o :=
 W.hideAll_get _ e λhm=>by
  have q:(H b).isSome=true:=(List.mem_filter.mp hm).2
  rw[n]at q;simp at q
theorem gD{h:Heap}{H:Hp}{b:Addr}{o:Obj}(e:(FM h H).get? b=some o):h.get? b=some o/\H b=none:=by
 have e':h.get? b=some o:=W.of_hideAll (ME h H) e
 refine⟨e',?_⟩
 cases q:H b with
 | none=>rfl
 | some x =>
  have hm:b∈ME h H:=List.mem_filter.mpr ⟨List.mem_range.mpr (Heap.lt_size e'),by simp[q]⟩
  have z:(FM h H).get? b=none:=W.hideAll_none (ME h H) hm
  rw[z]at e;cases e
def gE(g h:Heap)(L:Addr):List (Addr × Obj):=(List.range h.objs.size).filterMap λa=>if a=L\/(g.get? a).isSome=true then none else(h.get? a).map λo=>(a,o)
def EA(g h:Heap)(L d:Addr):List (Addr × Obj):=(gE g h L).filter λp=>decide (p.1≠d)
end L2
namespace L2
structure Mod(K:W.Frag)(mg:Str->Option Value)(base:Heap):Prop where
 kin:K.In base
 glob:base.Ns mainGlobals mg
 blt:∃ mb,base.Ns builtinsNs mb/\∀ x:Str,x≠"__name__"->mb x=bootBuiltins x
 nolimit:base.NoLimit
structure Cx where
 prog:Program
 w:World
 K:W.Frag
 mg:Str->Option Value
 base:Heap
 A:Around
 N:List Str
 s₀:Shared
 H₀:Hp
 env:Env
 outer:List Env
 stack:List Env
 ex:List Addr
 fn:Str->Bool
 calm:Bool
 pn:List (Addr × Obj)
 xe:Value->Shared->Prop
def CV(l:List Env):List Addr:=l.filterMap (·.frame)
abbrev Cx.fs(X:Cx):List Addr:=CV X.outer
def OF(sc:Scope)(x:Str):Prop:=sc.names.lookup x=some .local\/sc.names.lookup x=some .cell\/sc.names.lookup x=some .free
def IG(sc:Scope)(x:Str):Prop:=sc.names.lookup x=some .local\/sc.names.lookup x=some .cell
def gF(env:Env)(h:Heap)(m:Str->Option Value)(x:Str)(u:Value):Prop :=
 (env.kindOf x=some .local/\m x=some u)\/((env.kindOf x=some .cell\/env.kindOf x=some .free)/\∃ c,env.cells.lookup x=some c/\h.IsCell c (some u))
structure Cx.Ok(X:Cx):Prop where
 mod:Mod X.K X.mg X.base
 kind:X.env.scope.kind=.function
 glob:X.env.globals=mainGlobals
 blt:X.env.builtins=builtinsNs
 above:X.s₀.heap.objs.size<=X.env.locals
 inj:∀ x y c,X.env.cells.lookup x=some c->X.env.cells.lookup y=some c->x=y
 has:∀ x,(X.env.kindOf x=some .cell\/X.env.kindOf x=some .free)->∃ c,X.env.cells.lookup x=some c
 cab:∀ x c,X.fn x=true->X.env.cells.lookup x=some c->X.s₀.heap.objs.size<=c
 hd:X.calm=true->X.A.handled=none
 frames:X.A.frames=some X.stack
 stk:X.stack=X.outer\/(X.stack=X.env::X.outer/\X.env.frame=some X.env.locals)
 exf:∀ b∈X.ex,b≠X.env.locals/\∀ x c,X.env.cells.lookup x=some c->c≠b
 bs:∀ b o,X.base.get? b=some o->X.s₀.heap.get? b=some o/\X.H₀ b=none
 bsz:X.base.objs.size<=X.s₀.heap.objs.size
 noex:∀ b o,X.base.get? b=some o->b∉X.ex
 exfs:∀ b∈X.ex,b∉X.fs
 funs:X.s₀.heap.FunFrames X.base X.outer
 frf:∀ b∈X.fs,X.H₀ b=none
structure Inv(X:Cx)(pins:List (Addr × Obj))(σ:List (Option V))(H:Hp)(s:Shared):Prop where
 ok:X.Ok
 os:s.os=X.s₀.os
 bare:AllBare s.gens
 base:Un X.fs X.ex X.H₀ H X.s₀.heap s.heap
 loc:∃ m,s.heap.Ns X.env.locals m/\∀ (i:Nat) (x:Str) (v:V),X.N[i]? =some x->σ[i]? =some (some v)->OF X.env.scope x->∃ u,RelV v u/\gF X.env s.heap m x u
 cell:∀ x c,X.env.cells.lookup x=some c->∃ v,s.heap.IsCell c v
 free:H X.env.locals=none
 freeC:∀ x c,X.env.cells.lookup x=some c->H c=none
 pin:∀ p∈X.pn++pins,s.heap.get? p.1=some p.2/\H p.1=none/\p.1≠X.env.locals/\p.1∉X.fs/\∀ v,p.2.data≠.cell v
 hok:HOk X.prog X.w H s.heap
 len:σ.length=X.N.length
section
variable{X:Cx}{pins:List (Addr × Obj)}{σ:List (Option V)}{H H':Hp}{s:Shared}{h':Heap}
theorem Cx.Ok.nofr(ok:X.Ok){b:Addr}{o:Obj}(e:X.base.get? b=some o):b∉X.fs:=λhb=>by
 have:=(ok.funs.mem hb).1
 rw[e]at this;cases this
theorem Inv.bs(I:Inv X pins σ H s):∀ b o,X.base.get? b=some o->s.heap.get? b=some o/\H b=none:=λb o e =>
 ⟨I.base.keep b o (I.ok.bs b o e).1 (I.ok.bs b o e).2 (I.ok.nofr e) (I.ok.noex b o e),I.base.free b o (I.ok.bs b o e).1 (I.ok.bs b o e).2 (I.ok.noex b o e)⟩
theorem Inv.bk(I:Inv X pins σ H s):∀ b o,X.base.get? b=some o->s.heap.get? b=some o:=λb o e=>(I.bs b o e).1
theorem Inv.mod(I:Inv X pins σ H s):Mod X.K X.mg X.base:=I.ok.mod
theorem Inv.kIn(I:Inv X pins σ H s):X.K.In s.heap:=I.ok.mod.kin.keeps I.bk
theorem Inv.nolimit(I:Inv X pins σ H s):s.heap.NoLimit:=I.ok.mod.nolimit.keeps I.bk
theorem Inv.fr(I:Inv X pins σ H s):∃ m,Fr X.base X.env.locals s.heap m :=
 let ⟨m,hn,_⟩:=I.loc
 ⟨m,hn,I.bk,Nat.le_trans I.ok.bsz I.ok.above⟩
theorem Inv.lt(I:Inv X pins σ H s):X.env.locals<s.heap.objs.size:=let ⟨_,hn,_⟩:=I.loc;hn.lt
theorem Inv.sz(I:Inv X pins σ H s):X.s₀.heap.objs.size<=s.heap.objs.size:=Nat.le_trans I.ok.above (Nat.le_of_lt I.lt)
theorem Inv.nofs(I:Inv X pins σ H s){a:Addr}(h:s.heap.objs.size<=a):a∉X.fs:=λhb=>by
 obtain⟨_,o,ho,_⟩:=I.ok.funs.mem hb
 exact absurd (Nat.lt_of_lt_of_le (Heap.lt_size ho) (Nat.le_trans I.sz h)) (Nat.lt_irrefl _)
theorem Inv.cne(I:Inv X pins σ H s):∀ x c,X.env.cells.lookup x=some c->c≠X.env.locals:=λx c e z=>by
 obtain⟨v,o,ho,hd⟩:=I.cell x c e
 obtain⟨m,⟨o',es,ep,ho',hd',_⟩,_⟩:=I.loc
 rw[z,ho']at ho;cases ho;rw[hd']at hd;cases hd
theorem Inv.funs(I:Inv X pins σ H s):s.heap.FunFrames X.base X.outer:=by
 have all:∀ (l:List Env),(∀ b∈CV l,b∈X.fs)->X.s₀.heap.FunFrames X.base l->s.heap.FunFrames X.base l:=by
  intro l
  induction l with
  | nil=>intro _ _;trivial
  | cons env r ih =>
   intro hs hl
   obtain⟨hk,⟨L,o,hf,hn,ho,hd⟩,hr⟩:=hl
   have hL:L∈X.fs:=hs L (by unfold CV;rw[List.filterMap_cons,hf];exact List.mem_cons_self)
   obtain⟨sl,e⟩:=I.base.slot L o ho (I.ok.frf L hL) hL λz=>I.ok.exfs L z hL
   exact⟨hk,⟨L,_,hf,hn,e,hd⟩,ih (λb hb=>hs b (by unfold CV;rw[List.filterMap_cons,hf];exact List.mem_cons_of_mem _ hb)) hr⟩
 exact all X.outer (λ_ hb=>hb) I.ok.funs
theorem Inv.stack(I:Inv X pins σ H s):s.heap.FunFrames X.base X.stack:=by
 rcases I.ok.stk with e | ⟨e,hf⟩
 ·rw[e];exact I.funs
 ·rw[e]
  obtain⟨m,hn,_⟩:=I.loc
  refine .cons (by rw[I.ok.kind];decide) hf hn ?_ I.funs
  exact Heap.get?_none_of_le (Nat.le_trans I.ok.bsz I.ok.above)
theorem Inv.stkSub(I:Inv X pins σ H s):∀ b∈CV X.stack,b∈X.env.locals::X.fs:=λb hb=>by
 rcases I.ok.stk with e | ⟨e,hf⟩
 ·rw[e]at hb;exact List.mem_cons_of_mem _ hb
 ·rw[e]at hb
  unfold CV at hb
  rw[List.filterMap_cons,hf]at hb
  exact hb
theorem Inv.stkFree(I:Inv X pins σ H s):∀ b∈CV X.stack,H b=none:=λb hb=>by
 rcases List.mem_cons.mp (I.stkSub b hb)with e | hb
 ·rw[e];exact I.free
 ·obtain⟨_,o,ho,_⟩:=I.ok.funs.mem hb
  exact I.base.free b o ho (I.ok.frf b hb) λz=>I.ok.exfs b z hb
theorem Inv.step{g':Array GenState}{t':Nat}{d':Drawn}{ch:List Addr}(I:Inv X pins σ H s)
  (hch:∀ b∈ch,(b∈X.ex\/X.s₀.heap.objs.size<=b)/\b≠X.env.locals/\(∀ x c,X.env.cells.lookup x=some c->c≠b)/\∀ p∈X.pn++pins,p.1≠b)
  (keep:∀ b o,b≠X.env.locals->b∉X.fs->b∉ch->s.heap.get? b=some o->H b=none->h'.get? b=some o)
  (slot:∀ b o,b≠X.env.locals->b∈X.fs->b∉ch->s.heap.get? b=some o->H b=none->∃ sl,h'.get? b=some { o with slots:=sl }) (free:∀ b o,b∉ch->s.heap.get? b=some o->H b=none->H' b=none)
  (there:∀ b o,b∉ch->s.heap.get? b=some o->∃ o',h'.get? b=some o')
  (tups:∀ b xs,H b=some (.tup xs)->H' b=some (.tup xs)) (frzs:∀ b o u,H b=some (.frz o u)->H' b=some (.frz o u)) (tbls:∀ b ps,H b=some (.tbl ps)->∃ more,H' b=some (.tbl (ps++more)))
  (ns:∀ m,s.heap.Ns X.env.locals m->h'.Ns X.env.locals m) (hok:HOk X.prog X.w H' h') (hg:AllBare g') :
  Inv X pins σ H' { s with heap:=h',gens:=g',drawn:=d',toks:=t' }:=by
 have neL:∀ b o,X.s₀.heap.get? b=some o->b≠X.env.locals:=λb o e=>Nat.ne_of_lt (Nat.lt_of_lt_of_le (Heap.lt_size e) I.ok.above)
 have neC:∀ b o,X.s₀.heap.get? b=some o->b∉X.ex->b∉ch:=λb o e hx hb=>by
  rcases(hch b hb).1 with z | z
  ·exact hx z
  ·exact absurd (Nat.lt_of_lt_of_le (Heap.lt_size e) z) (Nat.lt_irrefl _)
 have cellK:∀ x c,X.env.cells.lookup x=some c->∀ v,s.heap.IsCell c v->h'.IsCell c v:=λx c e v ⟨o,ho,hd⟩=>by
  have nch:c∉ch:=λz=>(hch c z).2.2.1 x c e rfl
  by_cases hc:c∈X.fs
  ·obtain⟨sl,q⟩:=slot c o (I.cne x c e) hc nch ho (I.freeC x c e)
   exact⟨_,q,hd⟩
  ·exact⟨o,keep c o (I.cne x c e) hc nch ho (I.freeC x c e),hd⟩
 refine⟨I.ok,I.os,hg,⟨λb o e n hb hx=> ?_,λb o e n hb hx=> ?_,λb o e n hx=> ?_,λb o e hx=> ?_,λb xs e=>tups b xs (I.base.tups b xs e),λb o xs e=>frzs b o xs (I.base.frzs b o xs e),λb ps e=> ?_⟩,?_,λx c e=> ?_,?_,λx c e=> ?_,λp hp=> ?_,hok,I.len⟩
 ·exact keep b o (neL b o e) hb (neC b o e hx) (I.base.keep b o e n hb hx) (I.base.free b o e n hx)
 ·obtain⟨sl,e1⟩:=I.base.slot b o e n hb hx
  obtain⟨sl',e2⟩:=slot b _ (neL b o e) hb (neC b o e hx) e1 (I.base.free b o e n hx)
  exact⟨sl',e2⟩
 ·obtain⟨o',e1⟩:=I.base.there b o e hx
  exact free b o' (neC b o e hx) e1 (I.base.free b o e n hx)
 ·obtain⟨o',e1⟩:=I.base.there b o e hx
  exact there b o' (neC b o e hx) e1
 ·obtain⟨m1,e1⟩:=I.base.tbls b ps e
  obtain⟨m2,e2⟩:=tbls b _ e1
  exact⟨m1++m2,by rw[e2,Array.append_assoc]⟩
 ·obtain⟨m,hn,hl⟩:=I.loc
  refine⟨m,ns m hn,λi x v e1 e2 e3=> ?_⟩
  obtain⟨u,r,l⟩:=hl i x v e1 e2 e3
  refine⟨u,r,?_⟩
  rcases l with l | ⟨k,c,e,z⟩
  ·exact .inl l
  ·exact .inr ⟨k,c,e,cellK x c e _ z⟩
 ·obtain⟨v,z⟩:=I.cell x c e
  exact⟨v,cellK x c e v z⟩
 ·obtain⟨m,⟨o,_,_,ho,_⟩,_⟩:=I.loc
  exact free _ o (λz=>(hch _ z).2.1 rfl) ho I.free
 ·obtain⟨v,o,ho,hd⟩:=I.cell x c e
  exact free c o (λz=>(hch c z).2.2.1 x c e rfl) ho (I.freeC x c e)
 ·obtain⟨e,n,ne,nf,d⟩:=I.pin p hp
  have nch:p.1∉ch:=λz=>(hch p.1 z).2.2.2 p hp rfl
  exact⟨keep p.1 p.2 ne nf nch e n,free p.1 p.2 nch e n,ne,nf,d⟩
theorem Inv.un{t':Nat}(I:Inv X pins σ H s)(u:Un X.fs [] H H' s.heap h')(hok:HOk X.prog X.w H' h'):Inv X pins σ H' { s with heap:=h',toks:=t' }:=by
 obtain⟨m,⟨o,es,ep,ho,r⟩,_⟩:=id I.loc
 obtain⟨sl,hL⟩:=u.any ho I.free (by simp)
 exact I.step (g':=s.gens) (d':=s.drawn) (ch:=[]) (λ_ z=>nomatch z) (λb o _ hb _ e n=>u.keep b o e n hb (by simp)) (λb o _ hb _ e n=>u.slot b o e n hb (by simp)) (λb o _ e n=>u.free b o e n (by simp)) (λb o _ e=>u.there b o e (by simp)) u.tups u.frzs u.tbls (λm' hm=>by
  obtain⟨o',es',ep',ho',r'⟩:=hm
  rw[ho]at ho';cases ho'
  exact⟨_,es',ep',hL,r'⟩) hok I.bare
theorem Inv.call{g':Array GenState}{t':Nat}{d':Drawn}{ch:List Addr}(I:Inv X pins σ H s)(u:Un (CV X.stack) ch H H' s.heap h')(hok:HOk X.prog X.w H' h')(hg:AllBare g')
  (hch:∀ b∈ch,(b∈X.ex\/X.s₀.heap.objs.size<=b)/\b≠X.env.locals/\(∀ x c,X.env.cells.lookup x=some c->c≠b)/\∀ p∈X.pn++pins,p.1≠b) :
  Inv X pins σ H' { s with heap:=h',gens:=g',drawn:=d',toks:=t' }:=by
 obtain⟨m,⟨o,es,ep,ho,r⟩,_⟩:=id I.loc
 obtain⟨sl,hL⟩:=u.any ho I.free λz=>(hch _ z).2.1 rfl
 exact I.step (ch:=ch) hch (λb o hL hb hc e n=>u.keep b o e n (λz=>(List.mem_cons.mp (I.stkSub b z)).elim hL hb) hc) (λb o _ _ hc e n=>u.any e n hc) (λb o hc e n=>u.free b o e n hc) (λb o hc e=>u.there b o e hc) u.tups u.frzs u.tbls (λm' hm=>by
  obtain⟨o',es',ep',ho',r'⟩:=hm
  rw[ho]at ho';cases ho'
  exact⟨_,es',ep',hL,r'⟩) hok hg
theorem Inv.turned{t':Nat}{it:Addr}(I:Inv X pins σ H s)(k:∀ b o,b≠it->s.heap.get? b=some o->h'.get? b=some o)(hn:H it=none)(hL:it≠X.env.locals)
  (h1:it∈X.ex\/X.s₀.heap.objs.size<=it) (h2:∀ x c,X.env.cells.lookup x=some c->c≠it) (h3:∀ p∈X.pn++pins,p.1≠it):Inv X pins σ H { s with heap:=h',toks:=t' }:=by
 have nit:∀ b u,H b=some u->b≠it:=λb u e z=>by rw[z,hn]at e;cases e
 refine I.step (g':=s.gens) (d':=s.drawn) (ch:=[it]) (λb hb=> ?_) (λb o _ _ hc e _=>k b o (λz=>hc (by simp[z])) e) (λb o _ _ hc e _=>⟨o.slots,k b o (λz=>hc (by simp[z])) e⟩) (λ_ _ _ _ n=>n)
  (λb o hc e=>⟨o,k b o (λz=>hc (by simp[z])) e⟩) (λ_ _ e=>e) (λ_ _ _ e=>e) (λb ps e=>⟨#[],by rw[e];simp⟩) (λm hm=> ?_) (λb u e=> ?_) I.bare
 ·have e:b=it:=by simpa using hb
  subst e
  exact⟨h1,hL,h2,h3⟩
 ·obtain⟨o,es,ep,ho,r⟩:=hm
  exact⟨o,es,ep,k _ o (Ne.symm hL) ho,r⟩
 ·refine(I.hok b u e).stay (λc v hc q=>k c v ?_ q) (λ_ q=>q) λ_ _ q=>q
  rcases hc with z | z
  ·rw[z];exact nit b u e
  ·exact nit c _ z
theorem Inv.tok(I:Inv X pins σ H s)(t:Nat):Inv X pins σ H { s with toks:=t }:=I.un (h':=s.heap) (t':=t) Un.refl I.hok
theorem Inv.kept{t':Nat}(I:Inv X pins σ H s)(k:∀ b u,s.heap.get? b=some u->h'.get? b=some u):Inv X pins σ H { s with heap:=h',toks:=t' }:=I.un (Un.kept k) (I.hok.kept k)
theorem Inv.laid{a:Addr}{o:HO}{t':Nat}(I:Inv X pins σ H s)(k:∀ b u,s.heap.get? b=some u->h'.get? b=some u)(hp:s.heap.objs.size<=a)(new:ObjOk X.prog X.w (upd H a o) h' a o) :
  Inv X pins σ (upd H a o) { s with heap:=h',toks:=t' }:=I.un (Un.laid k hp (I.hok.fresh hp)) (I.hok.laid k hp new)
theorem Inv.write{x e:Addr}{o:HO}{t':Nat}(I:Inv X pins σ H s)(mu:KQ (H x))(he:e=x\/H e=some (.own x))(k:∀ b u,b≠e->s.heap.get? b=some u->h'.get? b=some u)(heo:∃ u,h'.get? e=some u)
  (new:ObjOk X.prog X.w (upd H x o) h' x o):Inv X pins σ (upd H x o) { s with heap:=h',toks:=t' }:=I.un (Un.write mu he k heo) (I.hok.write mu he k heo new)
theorem Inv.pins_of{pins':List (Addr × Obj)}(I:Inv X pins σ H s)(h:∀ p∈pins',s.heap.get? p.1=some p.2/\H p.1=none/\p.1≠X.env.locals/\p.1∉X.fs/\∀ v,p.2.data≠.cell v):Inv X pins' σ H s :=
 ⟨I.ok,I.os,I.bare,I.base,I.loc,I.cell,I.free,I.freeC,λp hp=>(List.mem_append.mp hp).elim (λz=>I.pin p (List.mem_append_left _ z)) (h p),I.hok,I.len⟩
theorem UG{N:List Str}(hN:N.Nodup){i j:Nat}{x:Str}(a:N[i]? =some x)(b:N[j]? =some x):i=j:=by
 obtain⟨h1,e1⟩:=List.getElem?_eq_some_iff.mp a
 obtain⟨h2,e2⟩:=List.getElem?_eq_some_iff.mp b
 exact(List.getElem_inj hN).mp (e1.trans e2.symm)
theorem UH{M:Model}{A:Around}{E:Value->Shared->Prop}{i:Nat}{x:Str}{v:V}{u:Value}{Q:Unit->Shared->Prop}(I:Inv X pins σ H s)(hN:X.N.Nodup)(hi:X.N[i]? =some x)(hx:IG X.env.scope x)(r:RelV v u)
  (h:∀ s',Inv X pins (σ.set i (some v)) H s'->(∃ a,Heap.SameBut a s.heap s'.heap/\(a=X.env.locals\/X.env.cells.lookup x=some a))->Q () s') (hf:X.fn x=true\/X.env.scope.names.lookup x=some .local:=by first | exact .inl rfl | exact .inr rfl | assumption):wpAny M A (storeName X.env x u) Q E s:=by
 obtain⟨m,hn,hl⟩:=id I.loc
 have hcls:(X.env.scope.kind == .class || (X.env.scope.kind == .module && X.env.locals != X.env.globals))=false:=by rw[I.ok.kind];rfl
 have hiσ:i<σ.length:=by rw[I.len];exact(List.getElem?_eq_some_iff.mp hi).1
 have cne:=I.cne
 have tracked:∀ {a:Addr} {h':Heap},(∃ o,s.heap.get? a=some o/\H a=none)->Heap.SameBut a s.heap h'->HOk X.prog X.w H h':=λ{a h'} ha hs b ob e=>by
  obtain⟨_,_,hfree⟩:=ha
  refine(I.hok b ob e).stay (λc w' hc q=>(hs.2 c ?_).trans q) (λ_ q=>q) λ_ _ q=>q
  rintro rfl
  rcases hc with rfl | hc
  ·rw[hfree]at e;cases e
  ·rw[hfree]at hc;cases hc
 rcases hx with hk | hk
 ·refine wpAny_storeName_local hk hn (λh' hn' hs=> ?_) hcls
  obtain⟨oL,_,_,hoL,_⟩:=id hn
  refine h _ ⟨I.ok,I.os,I.bare,⟨λb o e n hb hx=> ?_,λb o e n hb hx=> ?_,I.base.free,λb o e hx=> ?_,I.base.tups,I.base.frzs,I.base.tbls⟩,⟨_,hn',λj y v' e1 e2 e3=> ?_⟩,λy c e=> ?_,I.free,I.freeC,λp hp=> ?_,tracked ⟨oL,hoL,I.free⟩ hs,by simpa using I.len⟩ ⟨_,hs,.inl rfl⟩
  ·exact(hs.2 b (Nat.ne_of_lt (Nat.lt_of_lt_of_le (Heap.lt_size e) I.ok.above))).trans (I.base.keep b o e n hb hx)
  ·obtain⟨sl,e1⟩:=I.base.slot b o e n hb hx
   exact⟨sl,(hs.2 b (Nat.ne_of_lt (Nat.lt_of_lt_of_le (Heap.lt_size e) I.ok.above))).trans e1⟩
  ·obtain⟨o',e1⟩:=I.base.there b o e hx
   exact⟨o',(hs.2 b (Nat.ne_of_lt (Nat.lt_of_lt_of_le (Heap.lt_size e) I.ok.above))).trans e1⟩
  ·by_cases hj:j=i
   ·subst hj
    rw[hi]at e1;cases e1
    rw[List.getElem?_set_self hiσ]at e2
    cases e2
    exact⟨u,r,.inl ⟨hk,by simp⟩⟩
   ·rw[List.getElem?_set_ne (Ne.symm hj)]at e2
    obtain⟨u',r',q⟩:=hl j y v' e1 e2 e3
    refine⟨u',r',?_⟩
    rcases q with⟨k,e⟩ | ⟨k,c,e,z⟩
    ·refine .inl ⟨k,?_⟩
     have:y≠x:=λe=>hj (UG hN e1 (e ▸ hi))
     simp[this,e]
    ·exact .inr ⟨k,c,e,z.sameBut hs (cne y c e)⟩
  ·obtain⟨w',z⟩:=I.cell y c e
   exact⟨w',z.sameBut hs (cne y c e)⟩
  ·obtain⟨e,n,ne,nf,d⟩:=I.pin p hp
   exact⟨(hs.2 p.1 ne).trans e,n,ne,nf,d⟩
 ·have hfn:X.fn x=true:=by
   rcases hf with z | z
   ·exact z
   ·rw[z]at hk;cases hk
  obtain⟨c,hc⟩:=I.ok.has x (.inl hk)
  obtain⟨w',z⟩:=I.cell x c hc
  refine wpAny_storeName_cell I.ok.kind hk hc z (λh' hc' hs=> ?_)
  obtain⟨oc,hoc,hocd⟩:=id z
  refine h { s with heap:=h' } ⟨I.ok,I.os,I.bare,⟨λb o e n hb hx=> ?_,λb o e n hb hx=> ?_,I.base.free,λb o e hx=> ?_,I.base.tups,I.base.frzs,I.base.tbls⟩,⟨m,hn.sameBut hs (Ne.symm (cne x c hc)),λj y v' e1 e2 e3=> ?_⟩,λy c' e=> ?_,I.free,I.freeC,λp hp=> ?_,tracked ⟨oc,hoc,I.freeC x c hc⟩ hs,by simpa using I.len⟩ ⟨c,hs,.inr hc⟩
  ·exact(hs.2 b (Nat.ne_of_lt (Nat.lt_of_lt_of_le (Heap.lt_size e) (I.ok.cab x c hfn hc)))).trans (I.base.keep b o e n hb hx)
  ·obtain⟨sl,e1⟩:=I.base.slot b o e n hb hx
   exact⟨sl,(hs.2 b (Nat.ne_of_lt (Nat.lt_of_lt_of_le (Heap.lt_size e) (I.ok.cab x c hfn hc)))).trans e1⟩
  ·obtain⟨o',e1⟩:=I.base.there b o e hx
   exact⟨o',(hs.2 b (Nat.ne_of_lt (Nat.lt_of_lt_of_le (Heap.lt_size e) (I.ok.cab x c hfn hc)))).trans e1⟩
  ·by_cases hj:j=i
   ·subst hj
    rw[hi]at e1;cases e1
    rw[List.getElem?_set_self hiσ]at e2
    cases e2
    exact⟨u,r,.inr ⟨.inl hk,c,hc,hc'⟩⟩
   ·rw[List.getElem?_set_ne (Ne.symm hj)]at e2
    obtain⟨u',r',q⟩:=hl j y v' e1 e2 e3
    refine⟨u',r',?_⟩
    rcases q with q | ⟨k,c',e,z'⟩
    ·exact .inl q
    ·refine .inr ⟨k,c',e,z'.sameBut hs ?_⟩
     rintro rfl
     exact hj (UG hN e1 (I.ok.inj _ _ _ e hc ▸ hi))
  ·by_cases hcc:c'=c
   ·subst hcc;exact⟨_,hc'⟩
   ·obtain⟨w2,z2⟩:=I.cell y c' e
    exact⟨w2,z2.sameBut hs hcc⟩
  ·obtain⟨e,n,ne,nf,d⟩:=I.pin p hp
   refine⟨(hs.2 p.1 ?_).trans e,n,ne,nf,d⟩
   intro q
   rw[q,hoc]at e
   have q':oc=p.2:=Option.some.inj e
   exact d w' (by rw[<-q'];exact hocd)
theorem UI{M:Model}{A:Around}{E:Value->Shared->Prop}{i:Nat}{x:Str}{v:V}{u:Value}{Q:Unit->Shared->Prop}(I:Inv X pins σ H s)(hN:X.N.Nodup)(hi:X.N[i]? =some x)(hx:IG X.env.scope x)(r:RelV v u)
  (h:∀ s',Inv X pins (σ.set i (some v)) H s'->Q () s') (hf:X.fn x=true\/X.env.scope.names.lookup x=some .local:=by first | exact .inl rfl | exact .inr rfl | assumption):wpAny M A (storeName X.env x u) Q E s :=
 UH I hN hi hx r (λs' I' _=>h s' I') hf
theorem Inv.call'{s':Shared}{ch:List Addr}(I:Inv X pins σ H s)(ho:s'.os=s.os)(u:Un (CV X.stack) ch H H' s.heap s'.heap)(hok:HOk X.prog X.w H' s'.heap)(hg:AllBare s'.gens)
  (hch:∀ b∈ch,(b∈X.ex\/X.s₀.heap.objs.size<=b)/\b≠X.env.locals/\(∀ x c,X.env.cells.lookup x=some c->c≠b)/\∀ p∈X.pn++pins,p.1≠b):Inv X pins σ H' s':=by
 obtain⟨h',g',d',t',o'⟩:=s'
 have e:o'=s.os:=ho
 subst e
 exact I.call (g':=g') (t':=t') (d':=d') u hok hg hch
end
abbrev XK:=Value->Option Addr->Hp->Prop
abbrev St:=List (Option V)
abbrev VK:=V->Hp->Prop
abbrev TE:=St->Hp->VK->Prop
abbrev TT:=St->Hp->(Bool->Hp->Prop)->Prop
abbrev TA:=St->Hp->(List V->Hp->Prop)->Prop
structure Ends where
 nx:St->Hp->Prop
 rt:VK
 bk:St->Hp->Prop:=λ_ _=>False
 ct:St->Hp->Prop:=λ_ _=>False
abbrev TS:=Ends->St->Hp->Prop
def EP(X:Cx)(pins:List (Addr × Obj))(σ:St)(Q:VK)(u:Value)(s':Shared):Prop:=∃ v H',Inv X pins σ H' s'/\RelV v u/\Q v H'
def TP(X:Cx)(pins:List (Addr × Obj))(σ:St)(Q:Bool->Hp->Prop)(b:Bool)(s':Shared):Prop:=∃ H',Inv X pins σ H' s'/\Q b H'
def AP(X:Cx)(pins:List (Addr × Obj))(σ:St)(Q:List V->Hp->Prop)(us:List Value)(s':Shared):Prop:=∃ vs H',Inv X pins σ H' s'/\Vals vs us/\Q vs H'
def SP(X:Cx)(pins:List (Addr × Obj))(D:Ends)(f:Flow)(s':Shared):Prop :=
 match f with
 | .next=>∃ σ' H',Inv X pins σ' H' s'/\D.nx σ' H'
 | .brk=>∃ σ' H',Inv X pins σ' H' s'/\D.bk σ' H'
 | .cont=>∃ σ' H',Inv X pins σ' H' s'/\D.ct σ' H'
 | .ret u=>∃ v σ' H',Inv X pins σ' H' s'/\RelV v u/\D.rt v H'
def PE(X:Cx)(e:Expr)(t:TE):Prop :=
 ∀ (pins:List (Addr × Obj)) (s:Shared) (σ:St) (H:Hp) (Q:VK),Inv X pins σ H s->t σ H Q->wpAny (model X.prog X.w) X.A (eval e X.env) (EP X pins σ Q) X.xe s
def PT(X:Cx)(e:Expr)(t:TT):Prop :=
 ∀ (pins:List (Addr × Obj)) (s:Shared) (σ:St) (H:Hp) (Q:Bool->Hp->Prop),Inv X pins σ H s->t σ H Q->wpAny (model X.prog X.w) X.A (isTrue e X.env (eval e X.env)) (TP X pins σ Q) X.xe s
def PW(X:Cx)(e:Expr)(t:TT):Prop :=
 ∀ (whole:Sem Value) (pins:List (Addr × Obj)) (s:Shared) (σ:St) (H:Hp) (Q:Bool->Hp->Prop),Inv X pins σ H s->t σ H Q->wpAny (model X.prog X.w) X.A (isTrue e X.env whole) (TP X pins σ Q) X.xe s
theorem PW.pt{X:Cx}{e:Expr}{t:TT}(h:PW X e t):PT X e t:=h _
def PA(X:Cx)(es:List Expr)(t:TA):Prop :=
 ∀ (pos:Pos) (pins:List (Addr × Obj)) (s:Shared) (σ:St) (H:Hp) (Q:List V->Hp->Prop),Inv X pins σ H s->t σ H Q->wpAny (model X.prog X.w) X.A (spliced (backTo pos (starEach es X.env))) (AP X pins σ Q) X.xe s
def PS(X:Cx)(st:Stmt)(t:TS):Prop :=
 ∀ (pins:List (Addr × Obj)) (s:Shared) (σ:St) (H:Hp) (D:Ends),Inv X pins σ H s->t D σ H->wpAny (model X.prog X.w) X.A (exec st X.env) (SP X pins D) X.xe s
def PSs(X:Cx)(st:List Stmt)(t:TS):Prop :=
 ∀ (pins:List (Addr × Obj)) (s:Shared) (σ:St) (H:Hp) (D:Ends),Inv X pins σ H s->t D σ H->wpAny (model X.prog X.w) X.A (execs st X.env) (SP X pins D) X.xe s
theorem AM{α :Type}{t:Sem α}{Q Q': α ->Shared->Prop}{M:Model}{A:Around}{E:Value->Shared->Prop}{s:Shared}(h:wpAny M A t Q E s)(hQ:∀ a s,Q a s->Q' a s):wpAny M A t Q' E s:=wpAny_mono h hQ λ_ _ x=>x
end L2
namespace L2
section
variable{X:Cx}
def OG(i:Nat):TE:=λσ H Q=>∃ v,σ[i]? =some (some v)/\Q v H
def tC(v:V):TE:=λ_ H Q=>Q v H
theorem gG{i:Nat}{x:Str}{pos:Pos}(hN:X.N[i]? =some x)(hv:OF X.env.scope x)(hd:(x ==("__debug__":Str))=false:=by decide)(hcd:(x ==("__classdict__":Str))=false:=by decide):PE X (.Name x pos) (OG i):=by
 intro pins s σ H Q I h
 obtain⟨v,e,h⟩:=h
 obtain⟨m,hn,hl⟩:=I.loc
 obtain⟨u,r,l⟩:=hl i x v hN e hv
 have fin:EP X pins σ Q u s:=⟨v,H,I,r,h⟩
 rcases l with⟨hk,hm⟩ | ⟨hk,c,hc,hcell⟩
 ·exact wpAny_Name (wpAny_loadName_local I.ok.kind hk hn hm fin) hd
 ·rcases hk with hk | hk
  ·exact wpAny_Name (wpAny_loadName_cell I.ok.kind hk hc hcell fin) hd
  ·exact wpAny_Name (wpAny_loadName_free I.ok.kind hk hc hcell fin hcd) hd
theorem AJ{i j pos}:PE X (.Constant (.int i) j pos) (tC (.int i)):=λ_ _ _ H _ I h=>wpAny_Constant_int ⟨.int i,H,I.tok _,⟨_,rfl⟩,h⟩
theorem C5{b j pos}:PE X (.Constant (.bool b) j pos) (tC (.bl b)):=λ_ _ _ H _ I h=>Constant_bool ⟨.bl b,H,I,rfl,h⟩
theorem FN{j pos}:PE X (.Constant .none j pos) (tC .non):=λ_ _ _ H _ I h=>Constant_none ⟨.non,H,I,rfl,h⟩
theorem C6{x j pos}:PE X (.Constant (.str x) j pos) (tC (.str x)):=λ_ _ _ H _ I h=>Calls.Constant_str ⟨.str x,H,I.tok _,⟨_,rfl⟩,h⟩
def Gl(X:Cx)(x:Str):Prop:=X.env.kindOf x=some .globalImplicit
theorem KR{E:Value->Shared->Prop}{pins:List (Addr × Obj)}{s:Shared}{σ:St}{H:Hp}{x:Str}{u:Value}{pos:Pos}{Q:Value->Shared->Prop}(I:Inv X pins σ H s)(hg:Gl X x)(hm:X.mg x=some u)(h:Q u s)
  (hd:(x ==("__debug__":Str))=false:=by decide):wpAny (model X.prog X.w) X.A (eval (.Name x pos) X.env) Q E s :=
 Calls.Name_function_global I.ok.kind hg (Calls.loadGlobal_global (by rw[I.ok.glob];exact I.mod.glob.keeps I.bk) hm h) hd
theorem KS{E:Value->Shared->Prop}{pins:List (Addr × Obj)}{s:Shared}{σ:St}{H:Hp}{x:Str}{u:Value}{pos:Pos}{Q:Value->Shared->Prop}(I:Inv X pins σ H s)(hg:Gl X x)(hm:X.mg x=none)(hv:bootBuiltins x=some u)(h:Q u s)
  (hn:x≠"__name__":=by decide) (hd:(x ==("__debug__":Str))=false:=by decide):wpAny (model X.prog X.w) X.A (eval (.Name x pos) X.env) Q E s:=by
 obtain⟨mb,h1,h2⟩:=I.mod.blt
 exact Calls.Name_function_global I.ok.kind hg (Calls.loadGlobal_builtin (by rw[I.ok.glob];exact I.mod.glob.keeps I.bk) hm (by rw[I.ok.blt];exact h1.keeps I.bk) ((h2 x hn).trans hv) h) hd
theorem E8{x:Str}{v:V}{u:Value}{pos:Pos}(hg:Gl X x)(hm:X.mg x=none)(hv:bootBuiltins x=some u)(r:RelV v u)(hn:x≠"__name__":=by decide)(hd:(x ==("__debug__":Str))=false:=by decide):PE X (.Name x pos) (tC v) :=
 λ_ _ _ H _ I h=>KS I hg hm hv ⟨v,H,I,r,h⟩ hn hd
variable{a b:Expr}{ta tb:TE}{pos:Pos}
def PC(X:Cx)(op:CmpOp)(a b:Expr)(t:TE):Prop :=
 ∀ (pins:List (Addr × Obj)) (s:Shared) (σ:St) (H:Hp) (Q:VK),Inv X pins σ H s->t σ H Q →
  wpAny (model X.prog X.w) X.A (eval a X.env) (λv s₁=>wpAny (model X.prog X.w) X.A (eval b X.env) (λu s₂=>wpAny (model X.prog X.w) X.A (compareOp op v u) (EP X pins σ Q) X.xe s₂) X.xe s₁) X.xe s
theorem gH(b:Expr){op:CmpOp}(h:op≠.In)(h2:op≠.NotIn):behindInMarks op b=false:=by
 have e1:(op == CmpOp.In)=false:=by cases op<;>first | rfl | exact absurd rfl h
 have e2:(op == CmpOp.NotIn)=false:=by cases op<;>first | rfl | exact absurd rfl h2
 cases b<;>simp[behindInMarks,e1,e2]
def tB(t:TE):TT:=λσ H Q=>t σ H λx H1=>∃ c,x=.bl c/\Q c H1
theorem GH{op:CmpOp}{t:TE}(h:PC X op a b t)(h1:behindInMarks op b=false:=by first | exact gH _ (by decide) (by decide) | rfl):PT X (.Compare a [op] [b] pos) (tB t):=by
 intro pins s σ H Q I hw
 refine wpAny_isTrue_Compare1 (AM (h pins s σ H _ I hw) λv s1 h1=>AM h1 λu s2 h2=>AM h2 λc s3 ⟨x,H1,I1,r1,q1⟩=> ?_) h1
 obtain⟨d,rfl,q⟩:=q1
 cases r1
 exact wpAny_truthy_bool ⟨H1,I1,q⟩
variable{tA tB':TT}{EA:List Expr}
def KU(t u:TT):TT:=λσ H Q=>t σ H λc H1=>if c=true then u σ H1 Q else Q false H1
def IH(t u:TT):TT:=λσ H Q=>t σ H λc H1=>if c=true then Q true H1 else u σ H1 Q
def DZ(t:TT):TT:=λσ H Q=>t σ H λc H1=>Q (!c) H1
theorem OH(ha:PT X a tA):PW X (.BoolOp .And [a] pos) tA:=by
 intro wh pins s σ H Q I h
 refine isTrue_and (AM (ha pins s σ H Q I h) λc s1 e=> ?_)
 cases c with
 | true=>exact isTrue_and_nil e
 | false=>exact e
theorem MF(ha:PT X a tA):PW X (.BoolOp .Or [a] pos) tA:=by
 intro wh pins s σ H Q I h
 refine isTrue_or (AM (ha pins s σ H Q I h) λc s1 e=> ?_)
 cases c with
 | false=>exact isTrue_or_nil e
 | true=>exact e
theorem OI(ha:PT X a tA)(hb:PW X (.BoolOp .And (b::EA) pos) tB'):PW X (.BoolOp .And (a::b::EA) pos) (KU tA tB'):=by
 intro wh pins s σ H Q I h
 refine isTrue_and (AM (ha pins s σ H _ I h) λc s1 ⟨H1,I1,q1⟩=> ?_)
 cases c with
 | true=>exact hb wh pins s1 σ H1 Q I1 q1
 | false=>exact⟨H1,I1,q1⟩
theorem MG(ha:PT X a tA)(hb:PW X (.BoolOp .Or (b::EA) pos) tB'):PW X (.BoolOp .Or (a::b::EA) pos) (IH tA tB'):=by
 intro wh pins s σ H Q I h
 refine isTrue_or (AM (ha pins s σ H _ I h) λc s1 ⟨H1,I1,q1⟩=> ?_)
 cases c with
 | true=>exact⟨H1,I1,q1⟩
 | false=>exact hb wh pins s1 σ H1 Q I1 q1
theorem EE(ha:PT X a tA):PT X (.UnaryOp .Not a pos) (DZ tA):=by
 intro pins s σ H Q I h
 exact isTrue_not (ha pins s σ H (λc H1=>Q (!c) H1) I h)
def G4(ta tb:TE):TE:=λσ H Q=>ta σ H λx H1=>∃ c,x=.bl c/\if c=true then tb σ H1 Q else Q (.bl false) H1
def gI(ta tb:TE):TE:=λσ H Q=>ta σ H λx H1=>∃ c,x=.bl c/\if c=true then Q (.bl true) H1 else tb σ H1 Q
theorem MH{op}{t:TE}(h:PE X a t):PE X (.BoolOp op [a] pos) t:=λpins s σ H Q I hw=>BoolOp_one (h pins s σ H Q I hw)
theorem KW(ha:PE X a ta)(hb:PE X (.BoolOp .And (b::EA) pos) tb):PE X (.BoolOp .And (a::b::EA) pos) (G4 ta tb):=by
 intro pins s σ H Q I h
 refine BoolOp_and (AM (ha pins s σ H _ I h) λv s1 ⟨x,H1,I1,r1,q1⟩=> ?_)
 obtain⟨c,rfl,q1⟩:=q1
 cases r1
 refine wpAny_truthy_bool ?_
 cases c with
 | true=>exact hb pins s1 σ H1 Q I1 q1
 | false=>exact⟨.bl false,H1,I1,rfl,q1⟩
def gJ(t:TT)(ta tb:TE):TE:=λσ H Q=>t σ H λc H1=>if c=true then ta σ H1 Q else tb σ H1 Q
end
end L2
namespace L2
def SqL(K:W.Frag)(H:Hp)(a:Addr)(xs:List V):Prop :=
 Rd H a (.lst xs) ∨
  ∃ (o:Obj) (its:Array Value) (n:Nat),K.lookup a=some o/\o.cls=.type "list"/\o.dict=none/\o.data=.seq its n/\its.size<=sizeLine/\Vals xs its.toList
def SqT(K:W.Frag)(H:Hp)(a:Addr)(xs:List V):Prop :=
 Rd H a (.tup xs) ∨
  ∃ (o:Obj) (its:Array Value) (n:Nat),K.lookup a=some o/\o.cls=.type "tuple"/\o.data=.seq its n/\its.size<=sizeLine/\Vals xs its.toList
def gK:Value->Option V
 | .none=>some .non
 | .bool b=>some (.bl b)
 | .int i _=>some (.int i)
 | .str x _=>some (.str x)
 | .bytes b _=>some (.byt b)
 | .float b _=>some (.flt b)
 | .ref a=>some (.ref a)
 | .type n=>some (.ty n)
 | _=>none
theorem RelV.abs{x:V}{u:Value}(r:RelV x u):gK u=some x:=by
 cases x with
 | non=>cases r;rfl
 | bl _=>cases r;rfl
 | int _=>obtain⟨t,rfl⟩:=r;rfl
 | str _=>obtain⟨t,rfl⟩:=r;rfl
 | byt _=>obtain⟨t,rfl⟩:=r;rfl
 | flt _=>obtain⟨t,rfl⟩:=r;rfl
 | ref _=>cases r;rfl
 | ty _=>cases r;rfl
theorem RelV.inj{x y:V}{u:Value}(r:RelV x u)(q:RelV y u):x=y:=Option.some.inj (r.abs.symm.trans q.abs)
theorem Vals.inj:∀ {xs ys:List V} {us:List Value},Vals xs us->Vals ys us->xs=ys
 | _,_,_,.nil,.nil=>rfl
 | _,_,_,.cons r t,.cons r' t'=>by rw[r.inj r',Vals.inj t t']
section
variable{X:Cx}{pins:List (Addr × Obj)}{σ:St}{H:Hp}{s:Shared}{a:Addr}{xs ys:List V}
theorem SqL.of{K:W.Frag}(h:H a=some (.lst xs)):SqL K H a xs:=.inl (.inl h)
theorem SqT.of{K:W.Frag}(h:H a=some (.tup xs)):SqT K H a xs:=.inl (.inl h)
theorem Inv.list(I:Inv X pins σ H s)(h:SqL X.K H a xs):∃ its:List Value,Vals xs its/\PlainL s.heap a its.toArray/\xs.length<=sizeLine:=by
 rcases h with h | ⟨o,its,n,hk,hc,hd,hs,hz,r⟩
 ·obtain⟨z,its,n,r,e⟩:=h.ok I.hok
  exact⟨its,r,⟨_,n,e,rfl,rfl,rfl⟩,z⟩
 ·refine⟨its.toList,r,⟨o,n,I.kIn a o hk,hc,hd,by simpa using hs⟩,?_⟩
  have e:=r.length
  simp only[Array.length_toList]at e
  omega
theorem Inv.tuple(I:Inv X pins σ H s)(h:SqT X.K H a xs):∃ its:List Value,Vals xs its/\IsTup s.heap a its.toArray/\xs.length<=sizeLine:=by
 rcases h with h | ⟨o,its,n,hk,hc,hs,hz,r⟩
 ·obtain⟨z,its,r,p⟩:=h.ok I.hok
  exact⟨its,r,p,z⟩
 ·refine⟨its.toList,r,⟨o,I.kIn a o hk,hc,n,by simpa using hs⟩,?_⟩
  have e:=r.length
  simp only[Array.length_toList]at e
  omega
theorem Inv.list_inj(I:Inv X pins σ H s)(h:SqL X.K H a xs)(h':SqL X.K H a ys):xs=ys:=by
 obtain⟨its,r,⟨o,n,e,_,_,d⟩,_⟩:=I.list h
 obtain⟨its',r',⟨o',n',e',_,_,d'⟩,_⟩:=I.list h'
 rw[e]at e';cases e'
 rw[d]at d'
 injection d' with d1 _
 have:its=its':=by simpa using congrArg Array.toList d1
 subst this
 exact r.inj r'
theorem Inv.tuple_inj(I:Inv X pins σ H s)(h:SqT X.K H a xs)(h':SqT X.K H a ys):xs=ys:=by
 obtain⟨its,r,⟨o,e,_,n,d⟩,_⟩:=I.tuple h
 obtain⟨its',r',⟨o',e',_,n',d'⟩,_⟩:=I.tuple h'
 rw[e]at e';cases e'
 rw[d]at d'
 injection d' with d1 _
 have:its=its':=by simpa using congrArg Array.toList d1
 subst this
 exact r.inj r'
end
abbrev Cx.wish(X:Cx)(E:Value->Shared->Prop):Cx:={ X with xe:=E }
abbrev Cx.nox(X:Cx):Cx:=X.wish λ_ _=>False
theorem Cx.Ok.wish{X:Cx}(ok:X.Ok)(E:Value->Shared->Prop):(X.wish E).Ok :=
 ⟨ok.mod,ok.kind,ok.glob,ok.blt,ok.above,ok.inj,ok.has,ok.cab,ok.hd,ok.frames,ok.stk,ok.exf,ok.bs,ok.bsz,ok.noex,ok.exfs,ok.funs,ok.frf⟩
theorem Cx.Ok.unwish{X:Cx}{E:Value->Shared->Prop}(ok:(X.wish E).Ok):X.Ok :=
 ⟨ok.mod,ok.kind,ok.glob,ok.blt,ok.above,ok.inj,ok.has,ok.cab,ok.hd,ok.frames,ok.stk,ok.exf,ok.bs,ok.bsz,ok.noex,ok.exfs,ok.funs,ok.frf⟩
section
variable{X:Cx}{pins:List (Addr × Obj)}{σ:St}{H:Hp}{s:Shared}{E:Value->Shared->Prop}
theorem Inv.wish(I:Inv X pins σ H s)(E:Value->Shared->Prop):Inv (X.wish E) pins σ H s:=⟨I.ok.wish E,I.os,I.bare,I.base,I.loc,I.cell,I.free,I.freeC,I.pin,I.hok,I.len⟩
theorem Inv.unwish(I:Inv (X.wish E) pins σ H s):Inv X pins σ H s:=⟨I.ok.unwish,I.os,I.bare,I.base,I.loc,I.cell,I.free,I.freeC,I.pin,I.hok,I.len⟩
theorem SP.unwish{D:Ends}{f:Flow}{s':Shared}(h:SP (X.wish E) pins D f s'):SP X pins D f s':=by
 cases f with
 | next=>obtain⟨σ',H',I,q⟩:=h;exact⟨σ',H',I.unwish,q⟩
 | brk=>obtain⟨σ',H',I,q⟩:=h;exact⟨σ',H',I.unwish,q⟩
 | cont=>obtain⟨σ',H',I,q⟩:=h;exact⟨σ',H',I.unwish,q⟩
 | ret u=>obtain⟨v,σ',H',I,r,q⟩:=h;exact⟨v,σ',H',I.unwish,r,q⟩
theorem PE.nox{e:Expr}{t:TE}(h:PE X.nox e t):PE X e t:=λpins s σ H Q I hw =>
 wpAny_mono (h pins s σ H Q (I.wish _) hw) (λ_ _ ⟨v,H',I',r,q⟩=>⟨v,H',I'.unwish,r,q⟩) λ_ _ z=>False.elim z
theorem PT.nox{e:Expr}{t:TT}(h:PT X.nox e t):PT X e t:=λpins s σ H Q I hw =>
 wpAny_mono (h pins s σ H Q (I.wish _) hw) (λ_ _ ⟨H',I',q⟩=>⟨H',I'.unwish,q⟩) λ_ _ z=>False.elim z
theorem PSs.nox{st:List Stmt}{t:TS}(h:PSs X.nox st t):PSs X st t:=λpins s σ H D I hw =>
 wpAny_mono (h pins s σ H D (I.wish _) hw) (λ_ _ q=>q.unwish) λ_ _ z=>False.elim z
end
section
variable{X:Cx}{st:Stmt}{EA:List Stmt}{t u:TS}{e:Expr}{te:TE}{pos:Pos}
def BR:TS:=λD σ H=>D.nx σ H
def AL(t u:TS):TS:=λD σ H=>t { D with nx:=u D } σ H
theorem BV:PSs X [] BR:=λ_ _ σ H _ I h=>wpAny_execs_nil ⟨σ,H,I,h⟩
theorem AR(h1:PS X st t)(h2:PSs X EA u):PSs X (st::EA) (AL t u):=by
 intro pins s σ H D I h
 refine wpAny_execs_cons (AM (h1 pins s σ H { D with nx:=u D } I h) λf s1 q=> ?_)
 cases f with
 | next =>
  obtain⟨σ',H',I',q⟩:=q
  exact h2 pins s1 σ' H' D I' q
 | ret v=>exact q
 | brk=>exact q
 | cont=>exact q
theorem AQ(h1:PS X st t):PSs X [st] t:=by
 intro pins s σ H D I h
 refine wpAny_execs_cons (AM (h1 pins s σ H D I h) λf s1 q=> ?_)
 cases f with
 | next=>exact wpAny_execs_nil q
 | ret v=>exact q
 | brk=>exact q
 | cont=>exact q
def gL:TS:=λD σ H=>D.bk σ H
def gM:TS:=λD σ H=>D.ct σ H
theorem Inv.quiet{pins:List (Addr × Obj)}{σ:St}{H:Hp}{s:Shared}(I:Inv X pins σ H s):interactive X.env=false:=by simp[interactive,I.ok.kind]
def C7(te:TE):TS:=λD σ H=>te σ H λ_ H1=>D.nx σ H1
theorem DK(he:PE X e te)(hs:swapsWith e none pos.line X.env=pure false:=by rfl):PS X (.Expr e pos) (C7 te):=by
 intro pins s σ H D I h
 exact wpAny_Expr_any (AM (he pins s σ H _ I h) λv s1 ⟨x,H1,I1,r1,q1⟩=>⟨σ,H1,I1,q1⟩) I.quiet hs
def A1(te:TE):TS:=λD σ H=>te σ H D.rt
theorem A4(he:PE X e te):PS X (.Return (some e) pos) (A1 te):=by
 intro pins s σ H D I h
 exact wpAny_Return_some (AM (he pins s σ H _ I h) λv s1 ⟨x,H1,I1,r1,q1⟩=>⟨x,σ,H1,I1,r1,q1⟩)
def gO:TS:=λD _ H=>D.rt .non H
def BO(c:TT)(t u:TS):TS:=λD σ H=>c σ H λb H1=>if b=true then t D σ H1 else u D σ H1
theorem BS{c:Expr}{a b:List Stmt}{tc:TT}(hc:PT X c tc)(ha:PSs X a t)(hb:PSs X b u):PS X (.If c a b pos) (BO tc t u):=by
 intro pins s σ H D I h
 refine wpAny_If (AM (hc pins s σ H _ I h) λd s1 ⟨H1,I1,q1⟩=> ?_)
 cases d with
 | true=>exact ha pins s1 σ H1 D I1 q1
 | false=>exact hb pins s1 σ H1 D I1 q1
end
abbrev TG:=V->St->Hp->(St->Hp->Prop)->Prop
abbrev GI:=List V->St->Hp->(St->Hp->Prop)->Prop
def PG(X:Cx)(target:Expr)(t:TG):Prop :=
 ∀ (pins:List (Addr × Obj)) (s:Shared) (σ:St) (H:Hp) (v:V) (u:Value) (Q:St->Hp->Prop),Inv X pins σ H s->RelV v u->t v σ H Q →
  wpAny (model X.prog X.w) X.A (assign target X.env u) (λ_ s'=>∃ σ' H',Inv X pins σ' H' s'/\Q σ' H') X.xe s
def MI(X:Cx)(ts:List Expr)(t:GI):Prop :=
 ∀ (pins:List (Addr × Obj)) (s:Shared) (σ:St) (H:Hp) (vs:List V) (us:List Value) (Q:St->Hp->Prop),Inv X pins σ H s->Vals vs us->t vs σ H Q →
  wpAny (model X.prog X.w) X.A (assignInOrder ((assignEach ts X.env).map (·.2)) us) (λ_ s'=>∃ σ' H',Inv X pins σ' H' s'/\Q σ' H') X.xe s
abbrev MJ:=V->V->V->Hp->(Hp->Prop)->Prop
def OJ(X:Cx)(t:MJ):Prop :=
 ∀ (pins:List (Addr × Obj)) (s:Shared) (σ:St) (H:Hp) (o i v:V) (ov iv u:Value) (Q:Hp->Prop),Inv X pins σ H s->RelV o ov->RelV i iv->RelV v u->t o i v H Q →
  wpAny (model X.prog X.w) X.A (setItem ov iv u) (λ_ s'=>∃ H',Inv X pins σ H' s'/\Q H') X.xe s
abbrev MK:=V->V->Hp->VK->Prop
section
variable{X:Cx}{pos:Pos}
def AW(i:Nat):TG:=λv σ H Q=>Q (σ.set i (some v)) H
theorem GJ{i:Nat}{x:Str}(hN:X.N.Nodup)(hi:X.N[i]? =some x)(hx:IG X.env.scope x)(hf:X.fn x=true\/X.env.scope.names.lookup x=some .local:=by first | exact .inl rfl | exact .inr rfl | assumption):PG X (.Name x pos) (AW i):=by
 intro pins s σ H v u Q I r h
 exact wpAny_assign_Name (UI I hN hi hx r (λs' I'=>⟨_,H,I',h⟩) hf)
def OK:GI:=λvs σ H Q=>vs=[]/\Q σ H
def ML(t:TG)(u:GI):GI:=λvs σ H Q=>∃ v r,vs=v::r/\t v σ H λσ' H'=>u r σ' H' Q
theorem gP:MI X [] OK:=by
 intro pins s σ H vs us Q I r h
 obtain⟨e,h⟩:=h
 subst e
 cases r
 exact assignInOrder_nil ⟨σ,H,I,h⟩
theorem UJ{e:Expr}{es:List Expr}{t:TG}{u:GI}(h1:PG X e t)(h2:MI X es u)
  (hs:(assignEach (e::es) X.env).map (·.2)=assign e X.env::(assignEach es X.env).map (·.2):=by rfl):MI X (e::es) (ML t u):=by
 intro pins s σ H vs us Q I r h
 obtain⟨v,vr,e1,h⟩:=h
 subst e1
 cases r with
 | cons r rr =>
  rw[hs]
  refine assignInOrder_cons (AM (h1 pins s σ H _ _ _ I r h) λ_ s1 ⟨σ1,H1,I1,q1⟩=> ?_)
  exact h2 pins s1 σ1 H1 _ _ Q I1 rr q1
def OL(K:W.Frag)(n:Nat)(t:GI):TG:=λv σ H Q=>∃ a xs,v=.ref a/\SqT K H a xs/\xs.length=n/\t xs σ H Q
theorem gQ{es:List Expr}{k:Nat}{t:GI}{n:Nat}(hc:X.calm=true)(h:MI X es t)
  (hn:(assignEach es X.env).length=n:=by rfl) (hst:(assignEach es X.env).findIdx? (·.1)=none:=by rfl):PG X (.Tuple es k pos) (OL X.K n t):=by
 intro pins s σ H v u Q I r hw
 obtain⟨a,xs,e1,hq,hl,hw⟩:=hw
 subst e1
 cases r
 obtain⟨its,rv,ht,hz⟩:=I.tuple hq
 refine assign_Tuple_tuple (I.ok.hd hc) ht (by simp[hn,<-hl,rv.length]) hst λh' hx=> ?_
 have I1:Inv X pins σ H { s with heap:=h' }:=I.kept (t':=s.toks) λb o e=>hx b o (Nat.ne_of_lt (Heap.lt_size e)) e
 exact h pins _ σ H xs _ Q I1 (by simpa using rv) hw
def II(to ti:TE)(t:MJ):TG:=λv σ H Q=>to σ H λo H1=>ti σ H1 λi H2=>t o i v H2 λH3=>Q σ H3
theorem MM{o i:Expr}{to ti:TE}{t:MJ}(ho:PE X o to)(hi:PE X i ti)(hs:OJ X t)
  (ha:∀ v,assign (.Subscript o i pos) X.env v=(do
   let ov ← holding [v] (eval o X.env)
   let iv ← holding [v,ov] (eval i X.env)
   standAt pos
   holding [v,ov,iv] (setItem ov iv v)
   release [v,ov,iv] []):=by intro _;rfl):PG X (.Subscript o i pos) (II to ti t):=by
 intro pins s σ H v u Q I r h
 rw[ha]
 refine wpAny_bind (wpAny_holding (AM (ho pins s σ H _ I h) λov s1 ⟨x,H1,I1,r1,q1⟩=> ?_))
 refine wpAny_bind (wpAny_holding (AM (hi pins s1 σ H1 _ I1 q1) λiv s2 ⟨y,H2,I2,r2,q2⟩=> ?_))
 refine wpAny_bind (wpAny_standAt (wpAny_bind (wpAny_holding (AM (hs pins s2 σ H2 x y v ov iv u _ I2 r1 r2 r q2) λ_ s3 ⟨H3,I3,q3⟩=> ?_))))
 exact wpAny_release ⟨σ,H3,I3,q3⟩
def A9(te:TE)(g:TG):TS:=λD σ H=>te σ H λx H1=>g x σ H1 D.nx
theorem MN{tg e:Expr}{te:TE}{g:TG}(he:PE X e te)(hg:PG X tg g)(hs:swapsWithSole [tg] e pos.line X.env=pure false:=by rfl)(hw:swappedStores [tg] e X.env=pure none:=by rfl)
  (h1:(assignEach [tg] X.env).map (·.2)=[assign tg X.env]:=by rfl):PS X (.Assign [tg] e pos) (A9 te g):=by
 intro pins s σ H D I h
 refine wpAny_Assign_stores (AM (he pins s σ H _ I h) λv s1 ⟨x,H1,I1,r1,q1⟩=> ?_) hs hw
 rw[h1]
 exact AM (hg pins s1 σ H1 x v _ I1 r1 q1) λ_ s2 q=>q
theorem gR{i:Nat}{x:Str}{e:Expr}{te:TE}{pos':Pos}(hN:X.N.Nodup)(hi:X.N[i]? =some x)(hx:IG X.env.scope x)(he:PE X e te)(hs:swapsWith e (some (.Name x pos')) pos.line X.env=pure false:=by rfl)(hf:X.fn x=true\/X.env.scope.names.lookup x=some .local:=by first | exact .inl rfl | exact .inr rfl | assumption) :
  PS X (.Assign [.Name x pos'] e pos) (A9 te (AW i)):=by
 intro pins s σ H D I h
 refine wpAny_Assign_Name (AM (he pins s σ H _ I h) λv s1 ⟨y,H1,I1,r1,q1⟩=> ?_) hs
 exact UI I1 hN hi hx r1 (λs2 I2=>⟨_,H1,I2,q1⟩) hf
def gS(i:Nat)(te:TE)(ti:MK):TS:=λD σ H=>∃ x,σ[i]? =some (some x)/\te σ H λy H1=>ti x y H1 λz H2=>D.nx (σ.set i (some z)) H2
def OM(f:Int->Int->Int):MK:=λx y H Q=>∃ i j,x=.int i/\y=.int j/\Q (.int (f i j)) H
end
section
variable{X:Cx}{pos:Pos}
def UK(c:TT)(tb:TS):TS:=λD σ H=>∃ W:Nat->St->Hp->Prop,(∃ m,W m σ H)/\∀ m σ H,W m σ H →
 c σ H λb H1=>if b=true then ∃ N:St->Hp->Prop,(∀ σ' H',N σ' H'->∃ m',m'<m/\W m' σ' H')/\tb { D with nx:=N,ct:=N,bk:=D.nx } σ H1 else D.nx σ H1
theorem gT{c:Expr}{body:List Stmt}{tc:TT}{tb:TS}(hp:PassesOwn (model X.prog X.w) X.A X.env X.xe)(hc:PT X c tc)(hb:PSs X body tb):PS X (.While c body [] pos) (UK tc tb):=by
 intro pins s σ H D I h
 obtain⟨W,⟨m0,w0⟩,turn⟩:=h
 refine wpAny_While (codeAny_whileLoop (λn s'=>∃ σ' H',Inv X pins σ' H' s'/\W n σ' H') ?_ m0 ⟨σ,H,I,w0⟩)
 rintro n s1 ⟨σ1,H1,I1,w1⟩
 refine wpAny_passesOwn hp (AM (hc pins s1 σ1 H1 _ I1 (turn n σ1 H1 w1)) λb s2 ⟨H2,I2,q2⟩=> ?_)
 cases b with
 | true =>
  obtain⟨N,hN,q2⟩:=q2
  rw[if_pos rfl]
  refine wpAny_passesOwn hp (AM (hb pins s2 σ1 H2 _ I2 q2) λf s3 q3=> ?_)
  cases f with
  | next =>
   obtain⟨σ3,H3,I3,n3⟩:=q3
   obtain⟨m',hm,w3⟩:=hN σ3 H3 n3
   exact⟨m',hm,σ3,H3,I3,w3⟩
  | cont =>
   obtain⟨σ3,H3,I3,n3⟩:=q3
   obtain⟨m',hm,w3⟩:=hN σ3 H3 n3
   exact⟨m',hm,σ3,H3,I3,w3⟩
  | brk=>exact q3
  | ret v=>exact q3
 | false =>
  rw[if_neg Bool.false_ne_true]
  exact wpAny_execs_nil ⟨σ1,H2,I2,q2⟩
end
structure It where
 go:Nat->Hp->Prop
 yld:Nat->Hp->V->Hp->Prop
 stop:Nat->Hp->Prop
def FpOk(X:Cx)(pins:List (Addr × Obj))(H:Hp)(b:Addr):Prop :=
 H b=none/\b≠X.env.locals/\b∉X.fs/\(b∈X.ex\/X.s₀.heap.objs.size<=b)/\(∀ x c,X.env.cells.lookup x=some c->c≠b)/\∀ p∈X.pn++pins,p.1≠b
theorem Inv.fpOk{X:Cx}{pins:List (Addr × Obj)}{σ:St}{H H':Hp}{s:Shared}{b:Addr}(I:Inv X pins σ H s)(hb:s.heap.objs.size<=b)(hn:H' b=none):FpOk X pins H' b:=by
 refine⟨hn,Nat.ne_of_gt (Nat.lt_of_lt_of_le I.lt hb),I.nofs hb,.inr (Nat.le_trans I.sz hb),λx c e z=> ?_,λp hp z=> ?_⟩
 ·obtain⟨v,q⟩:=I.cell x c e
  exact absurd (Nat.lt_of_lt_of_le q.lt (by rw[z];exact hb)) (Nat.lt_irrefl _)
 ·exact absurd (Nat.lt_of_lt_of_le (Heap.lt_size (I.pin p hp).1) (by rw[z];exact hb)) (Nat.lt_irrefl _)
structure G5(P:Program)(w:World)(K:W.Frag)(tg:Expr)(J:It)(fp:List Addr)(it:Addr)(tn:Nat->Heap->Prop):Prop where
 mem:it∈fp
 obj:∀ i h,tn i h->∀ b∈fp,∃ o,h.get? b=some o/\∀ v,o.data≠.cell v
 keep:∀ i h h',tn i h->(∀ b∈fp,∀ o,h.get? b=some o->h'.get? b=some o)->tn i h'
 item:∀ (X:Cx),X.prog=P->X.w=w->X.K=K->X.calm=true->∀ (i:Nat) (pins:List (Addr × Obj)) (s:Shared) (σ:St) (H:Hp) (E:Value->Shared->Prop),Inv X pins σ H s->(∀ b∈fp,FpOk X pins H b)->tn i s.heap->J.go i H →
  wpAny (model P w) X.A (pyNext (.ref it)) (λr s1=>∃ u,r=some u ∧
   wpAny (model P w) X.A (letOwnedTupleGo tg (.ref it) u) (λ_ s2=>∃ x H',Inv X pins σ H' s2/\RelV x u/\J.yld i H x H'/\tn (i+1) s2.heap/\∀ b∈fp,H' b=none) E s1) E s
 done:∀ (X:Cx),X.prog=P->X.w=w->X.K=K->X.calm=true->∀ (i:Nat) (pins:List (Addr × Obj)) (s:Shared) (σ:St) (H:Hp) (E:Value->Shared->Prop),Inv X pins σ H s->(∀ b∈fp,FpOk X pins H b)->tn i s.heap->J.stop i H →
  wpAny (model P w) X.A (pyNext (.ref it)) (λr s1=>r=none/\Inv X pins σ H s1) E s
 self:∀ (A:Around) (i:Nat) (s:Shared) (Q:Value->Shared->Prop) (E:Value->Shared->Prop),tn i s.heap->Q (.ref it) s->wpAny (model P w) A (pyIter (.ref it)) Q E s
abbrev TI:=St->Hp->(It->Hp->Prop)->Prop
def UL(X:Cx)(pins:List (Addr × Obj))(σ:St)(tg:Expr)(R:It->Hp->Prop)(itv:Value)(s2:Shared):Prop :=
 ∃ (it:Addr) (fp:List Addr) (tn:Nat->Heap->Prop) (J:It) (H':Hp),itv=.ref it/\Inv X pins σ H' s2/\G5 X.prog X.w X.K tg J fp it tn/\tn 0 s2.heap/\(∀ b∈fp,FpOk X pins H' b)/\R J H'
def PI(X:Cx)(tg iter:Expr)(wi:TI):Prop :=
 ∀ (pins:List (Addr × Obj)) (s:Shared) (σ:St) (H:Hp) (R:It->Hp->Prop),Inv X pins σ H s->wi σ H R →
  wpAny (model X.prog X.w) X.A (eval iter X.env) (λv s1=>wpAny (model X.prog X.w) X.A (pyIter v) (UL X pins σ tg R) X.xe s1) X.xe s
theorem MO{M:Model}{A:Around}{E:Value->Shared->Prop}{s:Shared}{tg:Expr}{it:Addr}{u:Value}{o:Obj}{n:String}{vs:Array Value}{Q:Unit->Shared->Prop}(ho:s.heap.get? it=some o)(hc:o.cls=.type n)(hd:o.data=.fields vs)
    (hn:["enumerate","zip","dict_itemiterator","dict_reverseitemiterator","odict_iterator","itertools.zip_longest","itertools.pairwise"].contains n=false) (hQ:Q () s):wpAny M A (letOwnedTupleGo tg (.ref it) u) Q E s:=by
  unfold letOwnedTupleGo
  cases tg<;>first
    | exact wpAny_pure hQ
    | (cases u<;>first
        | exact wpAny_pure hQ
        | (refine wpAny_bind (wpAny_load ho ?_)
           rw[hc,hd]
           show wpAny M A (if(["enumerate","zip","dict_itemiterator","dict_reverseitemiterator","odict_iterator","itertools.zip_longest","itertools.pairwise"].contains n && vs[0]? == some (rawInt _))=true then _ else _) Q E s
           rw[if_neg (by intro h;rw[hn,Bool.false_and]at h;cases h)]
           exact wpAny_pure hQ))
def GK(K:W.Frag)(a:Addr):It :=
 ⟨λi H=>∃ xs x,SqL K H a xs/\xs[i]? =some x,λi H x H'=>H'=H/\∀ xs,SqL K H a xs->xs[i]? =some x,λi H=>∃ xs,SqL K H a xs/\xs.length<=i⟩
def GL(K:W.Frag)(a:Addr):It :=
 ⟨λi H=>∃ xs x,SqT K H a xs/\xs[i]? =some x,λi H x H'=>H'=H/\∀ xs,SqT K H a xs->xs[i]? =some x,λi H=>∃ xs,SqT K H a xs/\xs.length<=i⟩
def DL(lo:Int)(n:Nat):It:=⟨λi _=>i<n,λi H x H'=>H'=H/\x=.int (lo+i),λi _=>n<=i⟩
theorem gU{P:Program}{w:World}{K:W.Frag}{tg:Expr}(a it:Addr):G5 P w K tg (GK K a) [it] it (λi h=>h.IsListIter it a i) where
 mem:=by simp
 obj:=λi h st b hb=>by
  have e:b=it:=by simpa using hb
  subst e
  obtain⟨o,e,c,d⟩:=st
  exact⟨o,e,λv z=>by rw[d]at z;cases z⟩
 keep:=λi h h' st k=>st.at λo e=>k it (by simp) o e
 item:=by
  intro X hP hw hK hc i pins s σ H E I hf st hg
  subst hP hw hK
  obtain⟨xs,x,hq,hx⟩:=hg
  obtain⟨its,rv,p,hz⟩:=I.list hq
  obtain⟨u,hu,ru⟩:=rv.get hx
  obtain⟨f0,f1,f2,f3,f4,f5⟩:=hf it (by simp)
  refine wpAny_pyNext_list_item st p.isList (x:=u) (by simpa using hu) λh' st' sb=> ?_
  have I1:Inv X pins σ H { s with heap:=h' }:=I.turned (t':=s.toks) (λb o hb e=>(sb.2 b hb).trans e) f0 f1 f3 f4 f5
  obtain⟨o,e,c,d⟩:=id st'
  exact⟨u,rfl,MO (s:={ s with heap:=h' }) e c d (by decide) ⟨x,H,I1,ru,⟨rfl,λys hy=>by rw[I.list_inj hy hq];exact hx⟩,st',λb hb=>(hf b hb).1⟩⟩
 done:=by
  intro X hP hw hK hc i pins s σ H E I hf st hg
  subst hP hw hK
  obtain⟨xs,hq,hx⟩:=hg
  obtain⟨its,rv,p,hz⟩:=I.list hq
  obtain⟨f0,f1,f2,f3,f4,f5⟩:=hf it (by simp)
  have hl:=rv.length
  exact wpAny_pyNext_list_end (I.ok.hd hc) st p.isList (by simp;omega) λh' eb=>⟨rfl,I.turned (t':=s.toks) (λb o hb e=>eb b o hb e) f0 f1 f3 f4 f5⟩
 self:=λ_ _ _ _ _ st h=>wpAny_pyIter_listiter st h
theorem gW{P:Program}{w:World}{K:W.Frag}{tg:Expr}(a it:Addr):G5 P w K tg (GL K a) [it] it (λi h=>h.IsTupleIter it a i) where
 mem:=by simp
 obj:=λi h st b hb=>by
  have e:b=it:=by simpa using hb
  subst e
  obtain⟨o,e,c,d⟩:=st
  exact⟨o,e,λv z=>by rw[d]at z;cases z⟩
 keep:=λi h h' st k=>st.at λo e=>k it (by simp) o e
 item:=by
  intro X hP hw hK hc i pins s σ H E I hf st hg
  subst hP hw hK
  obtain⟨xs,x,hq,hx⟩:=hg
  obtain⟨its,rv,p,hz⟩:=I.tuple hq
  obtain⟨u,hu,ru⟩:=rv.get hx
  obtain⟨f0,f1,f2,f3,f4,f5⟩:=hf it (by simp)
  refine wpAny_pyNext_tuple_item st (show s.heap.IsTuple a its.toArray from p) (x:=u) (by simpa using hu) λh' st' sb=> ?_
  have I1:Inv X pins σ H { s with heap:=h' }:=I.turned (t':=s.toks) (λb o hb e=>(sb.2 b hb).trans e) f0 f1 f3 f4 f5
  obtain⟨o,e,c,d⟩:=id st'
  exact⟨u,rfl,MO (s:={ s with heap:=h' }) e c d (by decide) ⟨x,H,I1,ru,⟨rfl,λys hy=>by rw[I.tuple_inj hy hq];exact hx⟩,st',λb hb=>(hf b hb).1⟩⟩
 done:=by
  intro X hP hw hK hc i pins s σ H E I hf st hg
  subst hP hw hK
  obtain⟨xs,hq,hx⟩:=hg
  obtain⟨its,rv,p,hz⟩:=I.tuple hq
  obtain⟨f0,f1,f2,f3,f4,f5⟩:=hf it (by simp)
  have hl:=rv.length
  exact wpAny_pyNext_tuple_end (I.ok.hd hc) st (show s.heap.IsTuple a its.toArray from p) (by simp;omega) λh' eb=>⟨rfl,I.turned (t':=s.toks) (λb o hb e=>eb b o hb e) f0 f1 f3 f4 f5⟩
 self:=λ_ _ _ _ _ st h=>wpAny_pyIter_tupleiter st h
theorem gX{P:Program}{w:World}{K:PySem.W.Frag}{tg:Expr}(it:Addr)(lo:Int)(n:Nat):G5 P w K tg (DL lo n) [it] it (λi h=>IsRangeIter h it (lo+(i:Nat) * 1) ((n:Int) - (i:Nat)) 1) where
 mem:=by simp
 obj:=λi h st b hb=>by
  have e:b=it:=by simpa using hb
  subst e
  exact⟨_,st,λv z=>by
   have z':Data.fields _=Data.cell v:=z
   cases z'⟩
 keep:=λi h h' st k=>k it (by simp) _ st
 item:=by
  intro X hP hw hK hc i pins s σ H E I hf st hg
  subst hP hw hK
  obtain⟨f0,f1,f2,f3,f4,f5⟩:=hf it (by simp)
  have W:=Walks.range (prog:=X.prog) (w:=X.w) (I.ok.hd hc) it lo 1 n
  refine W.item i s _ _ hg st λv h' tk hv st' kk=> ?_
  obtain⟨t,rfl⟩:=hv
  have I1:Inv X pins σ H { s with heap:=h',toks:=tk }:=I.turned (λb o hb e=>kk b o (by simpa using hb) e) f0 f1 f3 f4 f5
  refine⟨_,rfl,MO (s:={ s with heap:=h',toks:=tk }) (n:="range_iterator") st' rfl rfl (by decide) ⟨.int (lo+i),H,I1,⟨t,?_⟩,⟨rfl,rfl⟩,st',λb hb=>(hf b hb).1⟩⟩
  rw[Int.mul_one]
 done:=by
  intro X hP hw hK hc i pins s σ H E I hf st hg
  subst hP hw hK
  obtain⟨f0,f1,f2,f3,f4,f5⟩:=hf it (by simp)
  exact wpAny_pyNext_range_end (I.ok.hd hc) st (by have:n<=i:=hg;omega) λh' eb=>⟨rfl,I.turned (t':=s.toks) (λb o hb e=>eb b o hb e) f0 f1 f3 f4 f5⟩
 self:=λ_ _ _ _ _ st h=>wpAny_pyIter_rangeiter st h
end L2
namespace L2
section
variable{X:Cx}{tg:Expr}
theorem gY{pins:List (Addr × Obj)}{σ:St}{H:Hp}{s:Shared}{R:It->Hp->Prop}{E:Value->Shared->Prop}{lo hi:Int}{t u v:Tok}{tk:Nat}(I:Inv X pins σ H s)(h1: -(2 ^ 62)<=lo)(h2:lo<2 ^ 62)(h3: -(2 ^ 62)<=hi)(h4:hi<2 ^ 62)
  (q:R (DL lo (hi - lo).toNat) H):wpAny (model X.prog X.w) X.A (pyIter (.ref s.heap.objs.size)) (UL X pins σ tg R) E { s with heap:=s.heap.push { cls:=.type "range",data:=.fields #[.int lo t,.int hi u,.int 1 v] },toks:=tk }:=by
 refine wpAny_pyIter_range (IsRange.new ..) (small_one h1 h2 h3 h4) ?_
 have I1:Inv X pins σ H { s with heap:=s.heap.push { cls:=.type "range",data:=.fields #[.int lo t,.int hi u,.int 1 v] },toks:=tk }:=I.kept λb o e=>Heap.get?_push_of_some _ e
 refine⟨(s.heap.push { cls:=.type "range",data:=.fields #[.int lo t,.int hi u,.int 1 v] }).objs.size,[(s.heap.push { cls:=.type "range",data:=.fields #[.int lo t,.int hi u,.int 1 v] }).objs.size],_,_,H,rfl,
  I1.kept (t':=tk) λb o e=>Heap.get?_push_of_some _ e,gX _ lo (hi - lo).toNat,?_,λb hb=> ?_,q⟩
 ·have e1:lo+((0:Nat):Int) * 1=lo:=by simp
  have e2:(((hi - lo).toNat:Nat):Int) - ((0:Nat):Int)=Builtin.Range.rangeSize lo hi 1:=by rw[rangeSize_one];split<;>omega
  show IsRangeIter _ _ (lo+((0:Nat):Int) * 1) ((((hi - lo).toNat:Nat):Int) - ((0:Nat):Int)) 1
  rw[e1,e2]
  exact Heap.get?_push_size _ rfl
 ·have e:b=(s.heap.push { cls:=.type "range",data:=.fields #[.int lo t,.int hi u,.int 1 v] }).objs.size:=by simpa using hb
  subst e
  exact I1.fpOk (Nat.le_refl _) (I1.hok.fresh (Nat.le_refl _))
def DB(ta:TA):TI:=λσ H R=>ta σ H λvs H1=>∃ j:Int,vs=[.int j]/\ -(2 ^ 62)<=j/\j<2 ^ 62/\R (DL 0 j.toNat) H1
def UM(ta:TA):TI:=λσ H R=>ta σ H λvs H1=>∃ i j:Int,vs=[.int i,.int j]/\(-(2 ^ 62)<=i/\i<2 ^ 62/\ -(2 ^ 62)<=j/\j<2 ^ 62)/\R (DL i (j - i).toNat) H1
theorem D0{a:Expr}{ta:TA}{p pos:Pos}(hg:Gl X "range")(hm:X.mg "range"=none)(ha:PA X [a] ta)(hs:starEach [a] X.env=[(false,eval a X.env)]:=by rfl):PI X tg (.Call (.Name "range" p) [a] [] pos) (DB ta):=by
 intro pins s σ H R I h
 refine Call_ (KS I hg hm boot_range (PyProof.Rows.callWith_type1 (AM (ha pos pins s σ H _ I h) λus s1 ⟨vs,H1,I1,r1,q1⟩=> ?_) hs rfl))
 obtain⟨j,e,q1,q2,q⟩:=q1
 subst e
 cases r1 with
 | cons r rr =>
  cases rr
  obtain⟨t,rfl⟩:=r
  exact call_range_1 (gY I1 (by omega) (by omega) q1 q2 (by simpa using q))
def B7(wi:TI)(g:TG)(tb:TS):TS:=λD σ H=>wi σ H λJ H1=>∃ W:Nat->Nat->St->Hp->Prop,(∃ m,W 0 m σ H1)/\∀ i m σ H,W i m σ H →
 (J.stop i H/\D.nx σ H)\/(J.go i H/\∃ N:St->Hp->Prop,(∀ σ' H',N σ' H'->∃ m',m'<m/\W (i+1) m' σ' H')/\∀ x H',J.yld i H x H'->g x σ H' λσ2 H2=>tb { D with nx:=N,ct:=N,bk:=D.nx } σ2 H2)
def KY(fp:List Addr)(h:Heap):List (Addr × Obj):=fp.filterMap λb=>(h.get? b).map λo=>(b,o)
theorem MP{fp:List Addr}{h:Heap}{b:Addr}{o:Obj}(hb:b∈fp)(e:h.get? b=some o):(b,o)∈KY fp h:=List.mem_filterMap.mpr ⟨b,hb,by rw[e];rfl⟩
theorem gZ{fp:List Addr}{h:Heap}{p:Addr × Obj}(hp:p∈KY fp h):p.1∈fp/\h.get? p.1=some p.2:=by
 obtain⟨b,hb,e⟩:=List.mem_filterMap.mp hp
 cases q:h.get? b with
 | none=>rw[q]at e;cases e
 | some o =>
  rw[q]at e
  have e':(b,o)=p:=Option.some.inj e
  subst e'
  exact⟨hb,q⟩
theorem Inv.pinned{pins:List (Addr × Obj)}{σ:St}{H:Hp}{s:Shared}{fp:List Addr}(I:Inv X pins σ H s)(hf:∀ b∈fp,FpOk X pins H b)(ho:∀ b∈fp,∃ o,s.heap.get? b=some o/\∀ v,o.data≠.cell v):Inv X (pins++KY fp s.heap) σ H s :=
 I.pins_of λp hp=>(List.mem_append.mp hp).elim (λz=>I.pin p (List.mem_append_right _ z)) λz=>by
  obtain⟨hb,e⟩:=gZ z
  obtain⟨f0,f1,f2,_⟩:=hf p.1 hb
  obtain⟨o,e',d⟩:=ho p.1 hb
  rw[e]at e';cases e'
  exact⟨e,f0,f1,f2,d⟩
theorem Inv.unpinned{pins pl:List (Addr × Obj)}{σ:St}{H:Hp}{s:Shared}(I:Inv X (pins++pl) σ H s):Inv X pins σ H s:=I.pins_of λp hp=>I.pin p (List.mem_append_right _ (List.mem_append_left _ hp))
theorem CY{iter:Expr}{body:List Stmt}{wi:TI}{g:TG}{tb:TS}{pos:Pos}(hp:PassesOwn (model X.prog X.w) X.A X.env X.xe)(hc:X.calm=true)(hi:PI X tg iter wi)(hg:PG X tg g)(hb:PSs X body tb)
  (hs:∀ x,foldedSetIterable iter X.env x=pure x:=by intro _;rfl):PS X (.For tg iter body [] pos) (B7 wi g tb):=by
 intro pins s σ H D I h
 refine wpAny_For (AM (hi pins s σ H _ I h) λv s1 h1=>AM h1 λitv s2 h2=> ?_) hs
 obtain⟨it,fp,tn,J,H2,e,I2,T,st2,f2,W,⟨m0,w0⟩,turn⟩:=h2
 subst e
 have stat:∀ {H':Hp},(∀ b∈fp,H' b=none)->∀ b∈fp,FpOk X pins H' b:=λhn b hb=>⟨hn b hb,(f2 b hb).2⟩
 refine codeAny_forLoop_any (λn s'=>∃ i σ' H',Inv X pins σ' H' s'/\tn i s'.heap/\(∀ b∈fp,H' b=none)/\W i n σ' H') ?_ m0 ⟨0,σ,H2,I2,st2,λb hb=>(f2 b hb).1,w0⟩
 rintro n s3 ⟨i,σ3,H3,I3,st3,fr3,w3⟩
 rcases turn i n σ3 H3 w3 with⟨stop,qn⟩ | ⟨go,N,hN,step⟩
 ·refine wpAny_passesOwn hp (AM (T.done X rfl rfl rfl hc i pins s3 σ3 H3 X.xe I3 (stat fr3) st3 stop) λr s4 ⟨hr,I4⟩=> ?_)
  subst hr
  exact wpAny_execs_nil ⟨σ3,H3,I4,qn⟩
 ·refine wpAny_passesOwn hp (AM (T.item X rfl rfl rfl hc i pins s3 σ3 H3 X.xe I3 (stat fr3) st3 go) λr s4 ⟨u,hr,h4⟩=> ?_)
  subst hr
  refine wpAny_passesOwn hp (AM h4 λ_ s5 ⟨x,H5,I5,r5,y5,st5,fr5⟩=> ?_)
  have I5':=I5.pinned (stat fr5) (T.obj _ _ st5)
  refine wpAny_passesOwn hp (AM (hg _ s5 σ3 H5 x u _ I5' r5 (step x H5 y5)) λ_ s6 ⟨σ6,H6,I6,q6⟩=> ?_)
  refine wpAny_passesOwn hp (AM (hb _ s6 σ6 H6 _ I6 q6) λf s7 q7=> ?_)
  have again:∀ {σ7:St} {H7:Hp},Inv X (pins++KY fp s5.heap) σ7 H7 s7->N σ7 H7->∃ m,m<n/\∃ i σ' H',Inv X pins σ' H' s7/\tn i s7.heap/\(∀ b∈fp,H' b=none)/\W i m σ' H':=λ{σ7 H7} I7 n7=>by
   obtain⟨m',hm,w7⟩:=hN σ7 H7 n7
   refine⟨m',hm,i+1,σ7,H7,I7.unpinned,T.keep _ _ _ st5 λb hb o e=>(I7.pin (b,o) (List.mem_append_right _ (List.mem_append_right _ (MP hb e)))).1,λb hb=> ?_,w7⟩
   obtain⟨o,e,d⟩:=T.obj _ _ st5 b hb
   exact(I7.pin (b,o) (List.mem_append_right _ (List.mem_append_right _ (MP hb e)))).2.1
  cases f with
  | next=>obtain⟨σ7,H7,I7,n7⟩:=q7;exact again I7 n7
  | cont=>obtain⟨σ7,H7,I7,n7⟩:=q7;exact again I7 n7
  | brk=>obtain⟨σ7,H7,I7,q7⟩:=q7;exact⟨σ7,H7,I7.unpinned,q7⟩
  | ret v=>obtain⟨x7,σ7,H7,I7,r7,q7⟩:=q7;exact⟨x7,σ7,H7,I7.unpinned,r7,q7⟩
end
theorem g6{K:PySem.W.Frag}{a:Addr}{xs:List V}{g:TG}{tb:TS}{D:Ends}{σ:St}{H:Hp}(Pv:Nat->St->Hp->Prop)(h0:Pv 0 σ H)(hl:∀ i σ H,i<=xs.length->Pv i σ H->SqL K H a xs)
  (hs:∀ i x σ H,xs[i]? =some x->Pv i σ H->g x σ H λσ2 H2=>tb { D with nx:=Pv (i+1),ct:=Pv (i+1),bk:=D.nx } σ2 H2) (hd:∀ σ H,Pv xs.length σ H->D.nx σ H) :
  ∃ W:Nat->Nat->St->Hp->Prop,(∃ m,W 0 m σ H)/\∀ i m σ H,W i m σ H →
   ((GK K a).stop i H/\D.nx σ H)\/((GK K a).go i H/\∃ N:St->Hp->Prop,(∀ σ' H',N σ' H'->∃ m',m'<m/\W (i+1) m' σ' H')/\∀ x H',(GK K a).yld i H x H'->g x σ H' λσ2 H2=>tb { D with nx:=N,ct:=N,bk:=D.nx } σ2 H2):=by
 refine⟨λi m σ H=>m=xs.length - i/\i<=xs.length/\Pv i σ H,⟨xs.length,by simp,Nat.zero_le _,h0⟩,?_⟩
 rintro i m σ H ⟨rfl,hi,p⟩
 have q:=hl i σ H hi p
 by_cases hlt:i<xs.length
 ·refine .inr ⟨⟨xs,xs[i],q,by simp[hlt]⟩,Pv (i+1),λσ' H' p'=>⟨xs.length - (i+1),by omega,rfl,hlt,p'⟩,λx H' y=> ?_⟩
  obtain⟨e,y⟩:=y
  subst e
  exact hs i x σ _ (y xs q) p
 ·have e:i=xs.length:=by omega
  subst e
  exact .inl ⟨⟨xs,q,Nat.le_refl _⟩,hd σ H p⟩
theorem g7{K:PySem.W.Frag}{a:Addr}{xs:List V}{g:TG}{tb:TS}{D:Ends}{σ:St}{H:Hp}(Pv:Nat->St->Hp->Prop)(h0:Pv 0 σ H)(hl:∀ i σ H,i<=xs.length->Pv i σ H->SqT K H a xs)
  (hs:∀ i x σ H,xs[i]? =some x->Pv i σ H->g x σ H λσ2 H2=>tb { D with nx:=Pv (i+1),ct:=Pv (i+1),bk:=D.nx } σ2 H2) (hd:∀ σ H,Pv xs.length σ H->D.nx σ H) :
  ∃ W:Nat->Nat->St->Hp->Prop,(∃ m,W 0 m σ H)/\∀ i m σ H,W i m σ H →
   ((GL K a).stop i H/\D.nx σ H)\/((GL K a).go i H/\∃ N:St->Hp->Prop,(∀ σ' H',N σ' H'->∃ m',m'<m/\W (i+1) m' σ' H')/\∀ x H',(GL K a).yld i H x H'->g x σ H' λσ2 H2=>tb { D with nx:=N,ct:=N,bk:=D.nx } σ2 H2):=by
 refine⟨λi m σ H=>m=xs.length - i/\i<=xs.length/\Pv i σ H,⟨xs.length,by simp,Nat.zero_le _,h0⟩,?_⟩
 rintro i m σ H ⟨rfl,hi,p⟩
 have q:=hl i σ H hi p
 by_cases hlt:i<xs.length
 ·refine .inr ⟨⟨xs,xs[i],q,by simp[hlt]⟩,Pv (i+1),λσ' H' p'=>⟨xs.length - (i+1),by omega,rfl,hlt,p'⟩,λx H' y=> ?_⟩
  obtain⟨e,y⟩:=y
  subst e
  exact hs i x σ _ (y xs q) p
 ·have e:i=xs.length:=by omega
  subst e
  exact .inl ⟨⟨xs,q,Nat.le_refl _⟩,hd σ H p⟩
theorem g8{lo:Int}{n:Nat}{g:TG}{tb:TS}{D:Ends}{σ:St}{H:Hp}(Pv:Nat->St->Hp->Prop)(h0:Pv 0 σ H)
  (hs:∀ i σ H,i<n->Pv i σ H->g (.int (lo+i)) σ H λσ2 H2=>tb { D with nx:=Pv (i+1),ct:=Pv (i+1),bk:=D.nx } σ2 H2) (hd:∀ σ H,Pv n σ H->D.nx σ H) :
  ∃ W:Nat->Nat->St->Hp->Prop,(∃ m,W 0 m σ H)/\∀ i m σ H,W i m σ H →
   ((DL lo n).stop i H/\D.nx σ H)\/((DL lo n).go i H/\∃ N:St->Hp->Prop,(∀ σ' H',N σ' H'->∃ m',m'<m/\W (i+1) m' σ' H')/\∀ x H',(DL lo n).yld i H x H'->g x σ H' λσ2 H2=>tb { D with nx:=N,ct:=N,bk:=D.nx } σ2 H2):=by
 refine⟨λi m σ H=>m=n - i/\i<=n/\Pv i σ H,⟨n,by simp,Nat.zero_le _,h0⟩,?_⟩
 rintro i m σ H ⟨rfl,hi,p⟩
 by_cases hlt:i<n
 ·refine .inr ⟨hlt,Pv (i+1),λσ' H' p'=>⟨n - (i+1),by omega,rfl,hlt,p'⟩,λx H' y=> ?_⟩
  obtain⟨e,y⟩:=y
  subst e y
  exact hs i σ _ hlt p
 ·have e:i=n:=by omega
  subst e
  exact .inl ⟨Nat.le_refl _,hd σ H p⟩
end L2
namespace L2
abbrev R2:=V->V->Hp->VK->Prop
def OpR(X:Cx)(f:Value->Value->Sem Value)(r:R2):Prop :=
 ∀ (pins:List (Addr × Obj)) (s:Shared) (σ:St) (H:Hp) (x y:V) (v u:Value) (Q:VK),Inv X pins σ H s->RelV x v->RelV y u->r x y H Q →
  wpAny (model X.prog X.w) X.A (f v u) (EP X pins σ Q) X.xe s
def CallR(X:Cx)(f:Value)(r:List V->Hp->VK->Prop):Prop :=
 ∀ (pins:List (Addr × Obj)) (s:Shared) (σ:St) (H:Hp) (xs:List V) (us:List Value) (Q:VK),Inv X pins σ H s->Vals xs us->r xs H Q →
  wpAny (model X.prog X.w) X.A (call f us) (EP X pins σ Q) X.xe s
def g9(X:Cx)(r:V->Hp->(Bool->Hp->Prop)->Prop):Prop :=
 ∀ (pins:List (Addr × Obj)) (s:Shared) (σ:St) (H:Hp) (x:V) (v:Value) (Q:Bool->Hp->Prop),Inv X pins σ H s->RelV x v->r x H Q →
  wpAny (model X.prog X.w) X.A (truthy v) (TP X pins σ Q) X.xe s
def AH(r:R2)(ta tb:TE):TE:=λσ H Q=>ta σ H λx H1=>tb σ H1 λy H2=>r x y H2 Q
def hE(r:V->Hp->VK->Prop)(ta:TE):TE:=λσ H Q=>ta σ H λx H1=>r x H1 Q
def rI(C:Int->Int->Prop)(g:Int->Int->V):R2:=λx y H Q=>∃ i j,x=.int i/\y=.int j/\C i j/\Q (g i j) H
def E9(g:Int->Int->V):R2:=λx y H Q=>∃ i j,x=.int i/\y=.int j/\Q (g i j) H
def rU(g:Int->V):V->Hp->VK->Prop:=λx H Q=>∃ i,x=.int i/\Q (g i) H
section
variable{X:Cx}{a b c:Expr}{ta tb tc:TE}{pos:Pos}
theorem ON(ha:PE X a ta)(hb:PE X b tb){pins:List (Addr × Obj)}{s:Shared}{σ:St}{H:Hp}{R:V->V->Hp->Prop}(I:Inv X pins σ H s)
  (h:ta σ H λx H1=>tb σ H1 λy H2=>R x y H2) {Q:Value->Shared->Prop} {f:Value->Value->Sem Value}
  (hf:∀ v u s2 x y H2,Inv X pins σ H2 s2->RelV x v->RelV y u->R x y H2->wpAny (model X.prog X.w) X.A (f v u) Q X.xe s2) :
  wpAny (model X.prog X.w) X.A (eval a X.env) (λv s₁=>wpAny (model X.prog X.w) X.A (eval b X.env) (λu s₂=>wpAny (model X.prog X.w) X.A (f v u) Q X.xe s₂) X.xe s₁) X.xe s:=by
 refine AM (ha pins s σ H _ I h) λv s1 ⟨x,H1,I1,r1,q1⟩=> ?_
 refine AM (hb pins s1 σ H1 _ I1 q1) λu s2 ⟨y,H2,I2,r2,q2⟩=> ?_
 exact hf v u s2 x y H2 I2 r1 r2 q2
theorem BE{op:Operator}{r:R2}(ho:OpR X (binaryOp op) r)(ha:PE X a ta)(hb:PE X b tb):PE X (.BinOp a op b pos) (AH r ta tb):=by
 intro pins s σ H Q I h
 exact wpAny_BinOp (ON ha hb I h λv u s2 x y H2 I2 rx ry q=>ho pins s2 σ H2 x y v u Q I2 rx ry q)
theorem MQ{f:Value->Value->Sem Value}{C:Int->Int->Prop}{g:Int->Int->Int}
  (rule:∀ (i j:Int) (t u:Tok) (s:Shared) (Q:Value->Shared->Prop) (E:Value->Shared->Prop),C i j->Q (.int (g i j) s.toks) { s with toks:=s.toks+1 }->wpAny (model X.prog X.w) X.A (f (.int i t) (.int j u)) Q E s) :
  OpR X f (rI C λi j=>.int (g i j)):=by
 intro pins s σ H x y v u Q I rx ry h
 obtain⟨i,j,rfl,rfl,hc,q⟩:=h
 obtain⟨t,rfl⟩:=rx
 obtain⟨t',rfl⟩:=ry
 exact rule i j t t' s _ _ hc ⟨.int (g i j),H,I.tok _,⟨_,rfl⟩,q⟩
theorem UN{f:Value->Value->Sem Value}{g:Int->Int->Int}
  (rule:∀ (i j:Int) (t u:Tok) (s:Shared) (Q:Value->Shared->Prop) (E:Value->Shared->Prop),Q (.int (g i j) s.toks) { s with toks:=s.toks+1 }->wpAny (model X.prog X.w) X.A (f (.int i t) (.int j u)) Q E s) :
  OpR X f (E9 λi j=>.int (g i j)):=by
 intro pins s σ H x y v u Q I rx ry h
 obtain⟨i,j,rfl,rfl,q⟩:=h
 obtain⟨t,rfl⟩:=rx
 obtain⟨t',rfl⟩:=ry
 exact rule i j t t' s _ _ ⟨.int (g i j),H,I.tok _,⟨_,rfl⟩,q⟩
theorem OO{f:Value->Value->Sem Value}{g:Int->Int->Bool}
  (rule:∀ (i j:Int) (t u:Tok) (s:Shared) (Q:Value->Shared->Prop) (E:Value->Shared->Prop),Q (.bool (g i j)) s->wpAny (model X.prog X.w) X.A (f (.int i t) (.int j u)) Q E s) :
  OpR X f (E9 λi j=>.bl (g i j)):=by
 intro pins s σ H x y v u Q I rx ry h
 obtain⟨i,j,rfl,rfl,q⟩:=h
 obtain⟨t,rfl⟩:=rx
 obtain⟨t',rfl⟩:=ry
 exact rule i j t t' s _ _ ⟨.bl (g i j),H,I,rfl,q⟩
def UO(i j:Int):Prop:=0<j/\j<1073741824
def OP(i j:Int):Prop:=0<=j/\j<=1000000/\i.natAbs<2 ^ 64
def CMul(i j:Int):Prop:=(-(2 ^ 64)<i/\i<2 ^ 64)\/(-(2 ^ 64)<j/\j<2 ^ 64)
theorem CMul.ok{i j:Int}(h:CMul i j):IntMulOk i j:=by
 rcases h with⟨h1,h2⟩ | ⟨h1,h2⟩
 ·exact .of_left (intBits_le_64 h1 h2)
 ·exact .of_right (intBits_le_64 h1 h2)
theorem hG:OpR X (binaryOp .Add) (E9 λi j=>.int (i+j)):=UN λ_ _ _ _ _ _ _ q=>add_int q
theorem MR:OpR X (binaryOp .Sub) (E9 λi j=>.int (i - j)):=UN λ_ _ _ _ _ _ _ q=>sub_int q
theorem hV:OpR X (binaryOp .Mult) (rI CMul λi j=>.int (i * j)):=MQ λ_ _ _ _ _ _ _ hc q=>mul_int q hc.ok
theorem hW:OpR X (binaryOp .FloorDiv) (rI UO λi j=>.int (i / j)):=MQ λi j _ _ _ _ _ hc q=>by
 have h1:(0:Int)<j:=hc.1
 have h2:j<1073741824:=hc.2
 exact floordiv_int (by omega) (by rw[Int.fdiv_eq_ediv_of_nonneg i (by omega)];exact q) (.inl (PyProof.noPylong_small (by omega)))
theorem GM:OpR X (binaryOp .Mod) (rI (λ_ j=>0<j) λi j=>.int (i % j)):=MQ λi j _ _ _ _ _ hc q=>by
 have h1:(0:Int)<j:=hc
 exact mod_int' (by omega) (by rw[Int.fmod_eq_emod_of_nonneg i (by omega)];exact q)
theorem OQ:OpR X (binaryOp .Pow) (rI OP λi j=>.int (i ^ j.toNat)):=MQ λ_ _ _ _ _ _ _ hc q=>pow_int_small hc.1 hc.2.1 hc.2.2 q
end
def CZ:V->V->Bool
 | .non,.non=>true | .non,.int _=>true | .int _,.non=>true | .non,.bl _=>true | .bl _,.non=>true | .non,.str _=>true | .str _,.non=>true
 | .int _,.int _=>true | .bl _,.bl _=>true | .str _,.str _=>true | .byt _,.byt _=>true
 | .int _,.str _=>true | .str _,.int _=>true | .bl _,.str _=>true | .str _,.bl _=>true
 | _,_=>false
def hX:R2:=λx y H Q=>CZ x y=true/\Q (.bl (decide (x=y))) H
def hZ:R2:=λx y H Q=>CZ x y=true/\Q (.bl (!decide (x=y))) H
theorem UP{i j:Int}:decide (V.int i=V.int j)=(i == j):=by
 rw[Bool.eq_iff_iff]
 simp
theorem UQ{i j:Bool}:decide (V.bl i=V.bl j)=(i == j):=by
 rw[Bool.eq_iff_iff]
 simp
theorem UR{i j:Str}:decide (V.str i=V.str j)=(i == j):=by
 rw[Bool.eq_iff_iff]
 simp
theorem US{i j:Array UInt8}:decide (V.byt i=V.byt j)=(i.toList == j.toList):=by
 rw[Bool.eq_iff_iff]
 cases i
 cases j
 simp
section
variable{X:Cx}{a b c:Expr}{ta tb tc:TE}{pos:Pos}
theorem BY{pins:List (Addr × Obj)}{σ:St}{H:Hp}{s:Shared}{Q:VK}{k k':Bool}(I:Inv X pins σ H s)(q:Q (.bl k) H)(e:k=k'):EP X pins σ Q (.bool k') s:=by
 subst e
 exact⟨.bl k,H,I,rfl,q⟩
theorem h9:OpR X (compareOp .Eq) hX:=by
 intro pins s σ H x y v u Q I rx ry h
 obtain⟨hs,q⟩:=h
 cases x with
 | non =>
  cases rx
  cases y with
  | non=>cases ry;exact PySem.EqNone.eq_none_none (BY I q (by simp))
  | bl j=>cases ry;exact PySem.EqNone.eq_none_bool (BY I q (by simp))
  | int j=>obtain⟨t',rfl⟩:=ry;exact PySem.EqNone.eq_none_int (BY I q (by simp))
  | str j=>obtain⟨t',rfl⟩:=ry;exact PySem.EqNone.eq_none_str (BY I q (by simp))
  | _=>exact absurd (show false=true from hs) Bool.false_ne_true
 | bl i =>
  cases rx
  cases y with
  | non=>cases ry;exact PySem.EqNone.eq_bool_none (BY I q (by simp))
  | bl j=>cases ry;exact eq_bool (BY I q UQ)
  | str j=>obtain⟨t',rfl⟩:=ry;exact PySem.EqMixed.eq_bool_str (BY I q (by simp))
  | _=>exact absurd (show false=true from hs) Bool.false_ne_true
 | int i =>
  obtain⟨t,rfl⟩:=rx
  cases y with
  | non=>cases ry;exact PySem.EqNone.eq_int_none (BY I q (by simp))
  | int j=>obtain⟨t',rfl⟩:=ry;exact eq_int (BY I q UP)
  | str j=>obtain⟨t',rfl⟩:=ry;exact PySem.EqMixed.eq_int_str (BY I q (by simp))
  | _=>exact absurd (show false=true from hs) Bool.false_ne_true
 | str i =>
  obtain⟨t,rfl⟩:=rx
  cases y with
  | non=>cases ry;exact PySem.EqNone.eq_str_none (BY I q (by simp))
  | bl j=>cases ry;exact PySem.EqMixed.eq_str_bool (BY I q (by simp))
  | int j=>obtain⟨t',rfl⟩:=ry;exact PySem.EqMixed.eq_str_int (BY I q (by simp))
  | str j=>obtain⟨t',rfl⟩:=ry;exact eq_str (BY I q UR)
  | _=>exact absurd (show false=true from hs) Bool.false_ne_true
 | byt i =>
  obtain⟨t,rfl⟩:=rx
  cases y with
  | byt j=>obtain⟨t',rfl⟩:=ry;exact W.eq_bytes (BY I q US)
  | _=>exact absurd (show false=true from hs) Bool.false_ne_true
 | _=>cases y<;>exact absurd (show false=true from hs) Bool.false_ne_true
theorem iA:OpR X (compareOp .NotEq) hZ:=by
 intro pins s σ H x y v u Q I rx ry h
 obtain⟨hs,q⟩:=h
 cases x with
 | non =>
  cases rx
  cases y with
  | non=>cases ry;exact PySem.EqNone.ne_none_none (BY I q (by simp))
  | bl j=>cases ry;exact PySem.EqNone.ne_none_bool (BY I q (by simp))
  | int j=>obtain⟨t',rfl⟩:=ry;exact PySem.EqNone.ne_none_int (BY I q (by simp))
  | str j=>obtain⟨t',rfl⟩:=ry;exact PySem.EqNone.ne_none_str (BY I q (by simp))
  | _=>exact absurd (show false=true from hs) Bool.false_ne_true
 | bl i =>
  cases rx
  cases y with
  | non=>cases ry;exact PySem.EqNone.ne_bool_none (BY I q (by simp))
  | bl j=>cases ry;exact ne_bool (BY I q (congrArg not UQ))
  | str j=>obtain⟨t',rfl⟩:=ry;exact PySem.EqMixed.ne_bool_str (BY I q (by simp))
  | _=>exact absurd (show false=true from hs) Bool.false_ne_true
 | int i =>
  obtain⟨t,rfl⟩:=rx
  cases y with
  | non=>cases ry;exact PySem.EqNone.ne_int_none (BY I q (by simp))
  | int j=>obtain⟨t',rfl⟩:=ry;exact ne_int (BY I q (congrArg not UP))
  | str j=>obtain⟨t',rfl⟩:=ry;exact PySem.EqMixed.ne_int_str (BY I q (by simp))
  | _=>exact absurd (show false=true from hs) Bool.false_ne_true
 | str i =>
  obtain⟨t,rfl⟩:=rx
  cases y with
  | non=>cases ry;exact PySem.EqNone.ne_str_none (BY I q (by simp))
  | bl j=>cases ry;exact PySem.EqMixed.ne_str_bool (BY I q (by simp))
  | int j=>obtain⟨t',rfl⟩:=ry;exact PySem.EqMixed.ne_str_int (BY I q (by simp))
  | str j=>obtain⟨t',rfl⟩:=ry;exact ne_str (BY I q (congrArg not UR))
  | _=>exact absurd (show false=true from hs) Bool.false_ne_true
 | byt i =>
  obtain⟨t,rfl⟩:=rx
  cases y with
  | byt j=>obtain⟨t',rfl⟩:=ry;exact W.ne_bytes (BY I q (congrArg not US))
  | _=>exact absurd (show false=true from hs) Bool.false_ne_true
 | _=>cases y<;>exact absurd (show false=true from hs) Bool.false_ne_true
theorem iB:OpR X (compareOp .Lt) (E9 λi j=>.bl (decide (i<j))):=OO λ_ _ _ _ _ _ _ q=>lt_int q
theorem iC:OpR X (compareOp .LtE) (E9 λi j=>.bl (decide (i<=j))):=OO λ_ _ _ _ _ _ _ q=>le_int q
theorem iD:OpR X (compareOp .Gt) (E9 λi j=>.bl (decide (j<i))):=OO λ_ _ _ _ _ _ _ q=>gt_int q
theorem KZ:OpR X (compareOp .Is) (λx y H Q=>y=.non/\Q (.bl (decide (x=.non))) H):=by
 intro pins s σ H x y v u Q I rx ry h
 obtain⟨rfl,q⟩:=h
 cases ry
 refine is_none_gen (BY I q ?_)
 cases x<;>first
  | (cases rx;rfl)
  | (obtain⟨t,rfl⟩:=rx;rfl)
theorem OpR.or{f:Value->Value->Sem Value}{r r':R2}(h:OpR X f r)(h':OpR X f r'):OpR X f (λx y H Q=>r x y H Q\/r' x y H Q):=by
 intro pins s σ H x y v u Q I rx ry q
 rcases q with q | q
 ·exact h pins s σ H x y v u Q I rx ry q
 ·exact h' pins s σ H x y v u Q I rx ry q
theorem CK(b:Expr){op:CmpOp}(h:op≠.In:=by decide)(h2:op≠.NotIn:=by decide):behindInMarks op b=false:=by
 have e1:(op == CmpOp.In)=false:=by cases op<;>first | rfl | exact absurd rfl h
 have e2:(op == CmpOp.NotIn)=false:=by cases op<;>first | rfl | exact absurd rfl h2
 cases b<;>simp[behindInMarks,e1,e2]
theorem IJ{op:CmpOp}{r:R2}(ho:OpR X (compareOp op) r)(ha:PE X a ta)(hb:PE X b tb)(hm:behindInMarks op b=false):PE X (.Compare a [op] [b] pos) (AH r ta tb):=by
 intro pins s σ H Q I h
 exact wpAny_Compare1 (ON ha hb I h λv u s2 x y H2 I2 rx ry q=>ho pins s2 σ H2 x y v u Q I2 rx ry q) hm
def CD(t:TE):TT:=λσ H Q=>t σ H λx H'=>∃ k,x=.bl k/\Q k H'
theorem C0{op:CmpOp}{r:R2}(ho:OpR X (compareOp op) r)(ha:PE X a ta)(hb:PE X b tb)(hm:behindInMarks op b=false):PT X (.Compare a [op] [b] pos) (CD (AH r ta tb)):=by
 intro pins s σ H Q I h
 refine wpAny_isTrue_Compare1 (AM (ha pins s σ H _ I h) λv s1 ⟨x,H1,I1,r1,q1⟩=>AM (hb pins s1 σ H1 _ I1 q1) λu s2 ⟨y,H2,I2,r2,q2⟩ =>
  AM (ho pins s2 σ H2 x y v u _ I2 r1 r2 q2) λc s3 ⟨z,H3,I3,r3,k,e,q3⟩=> ?_) hm
 subst e
 cases r3
 exact wpAny_truthy_bool ⟨H3,I3,q3⟩
def IK(r r':R2)(ta tb tc:TE):TE:=λσ H Q=>ta σ H λx H1=>tb σ H1 λy H2=>r x y H2 λz H3=>∃ k,z=.bl k ∧
 (if k=true then tc σ H3 λw' H4=>r' y w' H4 Q else Q (.bl false) H3)
theorem MS{op op':CmpOp}{r r':R2}(ho:OpR X (compareOp op) r)(ho':OpR X (compareOp op') r')(ha:PE X a ta)(hb:PE X b tb)(hc:PE X c tc)
  (hm:lastMarks [op,op'] [b,c]=false:=by with_unfolding_all rfl):PT X (.Compare a [op,op'] [b,c] pos) (CD (IK r r' ta tb tc)):=by
 intro pins s σ H Q I h
 refine isTrue_chain (AM (ha pins s σ H _ I h) λv s1 ⟨x,H1,I1,r1,q1⟩=>test_link (AM (hb pins s1 σ H1 _ I1 q1) λu s2 ⟨y,H2,I2,r2,q2⟩ =>
  AM (ho pins s2 σ H2 x y v u _ I2 r1 r2 q2) λd s3 ⟨z,H3,I3,r3,k,e,q3⟩=> ?_)) hm
 subst e
 cases r3
 refine wpAny_truthy_bool ?_
 cases k with
 | false =>
  obtain⟨k',e',q'⟩:=q3
  cases e'
  exact ite_ff ⟨H3,I3,q'⟩
 | true =>
  refine ite_tt (test_last (AM (hc pins s3 σ H3 _ I3 q3) λw' s4 ⟨z',H4,I4,r4,q4⟩=>AM (ho' pins s4 σ H4 y z' u w' _ I4 r2 r4 q4) λd' s5 ⟨z2,H5,I5,r5,k2,e2,q5⟩=> ?_))
  subst e2
  cases r5
  exact wpAny_truthy_bool ⟨H5,I5,q5⟩
def EF(K:W.Frag)(x:V)(H:Hp)(k:Bool):Prop :=
 match x with
 | .non=>k=false
 | .bl b=>k=b
 | .int i=>k=(i != 0)
 | .str y=>y.length<=sizeLine/\k=((y.length:Int) != 0)
 | .byt y=>y.size<=sizeLine/\k=((y.size:Int) != 0)
 | .ref p=>(∃ xs,SqL K H p xs/\k= !xs.isEmpty)\/(∃ xs,SqT K H p xs/\k= !xs.isEmpty)\/∃ kvs,H p=some (.dK kvs)/\k= !kvs.isEmpty
 | _=>False
theorem iE{κ :Type}{kvs:List (κ × V)}{vs:List (κ × Value)}(r:KV kvs vs):(!vs.isEmpty)= !kvs.isEmpty:=by
 cases r<;>rfl
theorem UT{xs:List V}{its:List Value}(r:Vals xs its):(!its.toArray.isEmpty)= !xs.isEmpty:=by
 cases r<;>simp
theorem IL:(sizeLine:Nat)<2 ^ 63:=by rw[sizeLine_eq];decide
theorem UU:g9 X (λx H Q=>∃ k,EF X.K x H k/\Q k H):=by
 intro pins s σ H x v Q I rx h
 obtain⟨k,e,q⟩:=h
 have hl:=IL
 have hs:sizeLine=16777216:=sizeLine_eq
 cases x with
 | non =>
  cases rx
  have e':k=false:=e
  subst e'
  exact truthy_none ⟨H,I,q⟩
 | bl b =>
  cases rx
  have e':k=b:=e
  subst e'
  exact wpAny_truthy_bool ⟨H,I,q⟩
 | int i =>
  obtain⟨t,rfl⟩:=rx
  have e':k=(i != 0):=e
  subst e'
  exact PySem.P.truthy_int ⟨H,I,q⟩
 | str y =>
  obtain⟨t,rfl⟩:=rx
  obtain⟨hy,e'⟩:y.length<=sizeLine/\k=((y.length:Int) != 0):=e
  subst e'
  exact PySem.P.truthy_str (by omega) ⟨H,I.tok _,q⟩
 | byt y =>
  obtain⟨t,rfl⟩:=rx
  obtain⟨hy,e'⟩:y.size<=sizeLine/\k=((y.size:Int) != 0):=e
  subst e'
  exact W.truthy_bytes (by omega) ⟨H,I.tok _,q⟩
 | ref p =>
  cases rx
  have e':(∃ xs,SqL X.K H p xs/\k= !xs.isEmpty)\/(∃ xs,SqT X.K H p xs/\k= !xs.isEmpty)\/∃ kvs,H p=some (.dK kvs)/\k= !kvs.isEmpty:=e
  rcases e' with⟨xs,hx,e'⟩ | ⟨xs,hx,e'⟩ | ⟨kvs,hx,e'⟩
  ·subst e'
   obtain⟨its,r,pl,hz⟩:=I.list hx
   have hlen:=r.length
   exact wpAny_truthy_list pl.isList (by simp only[List.size_toArray];omega) ⟨H,I.tok _,by rw[UT r];exact q⟩
  ·subst e'
   obtain⟨its,r,pl,hz⟩:=I.tuple hx
   have hlen:=r.length
   exact truthy_tuple pl (by simp only[List.size_toArray];omega) ⟨H,I.tok _,by rw[UT r];exact q⟩
  ·subst e'
   obtain⟨hz,hS,vs,r,m⟩:kvs.length<=sizeLine/\(p == sysModules)=false/\∃ vs,KV kvs vs/\s.heap.DictOf (C4 X.prog X.w) p vs:=I.hok p _ hx
   have hlen:kvs.length=vs.length:=Paired.length r
   exact wpAny_truthy_dict hS m (by omega) ⟨H,I.tok _,by rw[iE r];exact q⟩
 | _=>exact(show False from e).elim
theorem EQ(ha:PE X a ta)(he:∀ whole,isTrue a X.env whole=(do let v ← whole;standAt a.pos;holding [v] (truthy v))) :
  PT X a (λσ H Q=>ta σ H λx H'=>∃ k,EF X.K x H' k/\Q k H'):=by
 intro pins s σ H Q I h
 exact isTrue_plain (AM (ha pins s σ H _ I h) λv s1 ⟨x,H1,I1,r1,q1⟩=>UU pins s1 σ H1 x v Q I1 r1 q1) (he _)
theorem iF:OpR X (binaryOp .Add) (λx y H Q=>∃ i j,x=.str i/\y=.str j/\i.length+j.length<=sizeLine/\Q (.str (i++j)) H):=by
 intro pins s σ H x y v u Q I rx ry h
 obtain⟨i,j,rfl,rfl,hz,q⟩:=h
 obtain⟨t,rfl⟩:=rx
 obtain⟨t',rfl⟩:=ry
 exact add_str (λt' tk=>⟨.str (i++j),H,I.tok _,⟨_,rfl⟩,q⟩) hz
theorem FO{x:V}{us:List Value}(r:Vals [x] us):∃ u,us=[u]/\RelV x u:=by
 cases r with
 | cons r1 r2=>cases r2;exact⟨_,rfl,r1⟩
theorem iG{x y:V}{us:List Value}(r:Vals [x,y] us):∃ u w',us=[u,w']/\RelV x u/\RelV y w':=by
 cases r with
 | cons r1 r2 =>
  cases r2 with
  | cons r3 r4=>cases r4;exact⟨_,_,rfl,r1,r3⟩
theorem iH(hc:X.calm=true):CallR X (.builtin "max") (λxs H Q=>∃ i j,xs=[.int i,.int j]/\Q (.int (if j > i then j else i)) H):=by
 intro pins s σ H xs us Q I r h
 obtain⟨i,j,rfl,q⟩:=h
 obtain⟨u,w',rfl,⟨t,rfl⟩,⟨t',rfl⟩⟩:=iG r
 refine max_two_ints (I.ok.hd hc) λh' tk k=>⟨_,H,I.kept k,?_,q⟩
 by_cases hj:j > i
 ·rw[if_pos hj,if_pos hj];exact⟨_,rfl⟩
 ·rw[if_neg hj,if_neg hj];exact⟨_,rfl⟩
theorem iI:CallR X (.type "int") (λxs H Q=>(∃ i,xs=[.int i]/\Q (.int i) H)\/∃ k,xs=[.bl k]/\Q (.int (if k then 1 else 0)) H):=by
 intro pins s σ H xs us Q I r h
 rcases h with⟨i,rfl,q⟩ | ⟨k,rfl,q⟩
 ·obtain⟨u,rfl,t,rfl⟩:=FO r
  exact call_int_int ⟨.int i,H,I,⟨_,rfl⟩,q⟩
 ·obtain⟨u,rfl,r1⟩:=FO r
  cases r1
  exact call_int_bool ⟨.int (if k then 1 else 0),H,I.tok _,⟨_,rfl⟩,q⟩
def MT(K:W.Frag)(x:V)(H:Hp)(n:Nat):Prop :=
 match x with
 | .str y=>y.length<=sizeLine/\n=y.length
 | .byt y=>y.size<=sizeLine/\n=y.size
 | .ref p=>(∃ xs,SqL K H p xs/\n=xs.length)\/∃ xs,SqT K H p xs/\n=xs.length
 | _=>False
theorem iJ:CallR X (.builtin "len") (λxs H Q=>∃ x n,xs=[x]/\MT X.K x H n/\Q (.int n) H):=by
 intro pins s σ H xs us Q I r h
 obtain⟨x,n,rfl,e,q⟩:=h
 obtain⟨u,rfl,rx⟩:=FO r
 have hl:=IL
 have hs:sizeLine=16777216:=sizeLine_eq
 cases x with
 | str y =>
  obtain⟨t,rfl⟩:=rx
  obtain⟨hy,e'⟩:y.length<=sizeLine/\n=y.length:=e
  subst e'
  exact len_str (by omega) ⟨.int _,H,I.tok _,⟨_,rfl⟩,q⟩
 | byt y =>
  obtain⟨t,rfl⟩:=rx
  obtain⟨hy,e'⟩:y.size<=sizeLine/\n=y.size:=e
  subst e'
  exact W.len_bytes (by omega) ⟨.int _,H,I.tok _,⟨_,rfl⟩,q⟩
 | ref p =>
  cases rx
  have e':(∃ xs,SqL X.K H p xs/\n=xs.length)\/∃ xs,SqT X.K H p xs/\n=xs.length:=e
  rcases e' with⟨xs,hx,e'⟩ | ⟨xs,hx,e'⟩
  ·subst e'
   obtain⟨its,r',pl,hz⟩:=I.list hx
   have hlen:=r'.length
   exact Calls.call_len_list pl.isList (by simp only[List.size_toArray];omega) ⟨.int xs.length,H,I.tok _,⟨_,by simp only[List.size_toArray];rw[hlen]⟩,q⟩
  ·subst e'
   obtain⟨its,r',pl,hz⟩:=I.tuple hx
   have hlen:=r'.length
   exact len_tuple pl (by simp only[List.size_toArray];omega) ⟨.int xs.length,H,I.tok _,⟨_,by simp only[List.size_toArray];rw[hlen]⟩,q⟩
 | _=>exact(show False from e).elim
end
end L2
namespace L2
structure ObjM(h:Heap)(x dx C:Addr)(mA:Str->Option Value):Prop where
 obj:h.get? x=some (W.instObj C dx)
 ns:h.Ns1 dx mA
 ne:dx≠x
theorem iK{h:Heap}{dx:Addr}{mA:Str->Option Value}(n:h.Ns1 dx mA):∃ od,h.get? dx=some od/\∀ name,W.lookIn name od=some (mA name):=by
 obtain⟨o,es,ep,ho,hd,hk,_,hm⟩:=n
 refine⟨o,ho,λname=> ?_⟩
 have e:=hm name
 unfold nsFind findBy at e
 rw[<-Array.find?_toList]at e
 unfold W.lookIn
 rw[hd]
 dsimp only
 split
 ·rename_i y q
  rw[q]at e
  exact congrArg some e
 ·rename_i q
  rw[q]at e
  have a:es.toList.any (·.refKey)=false:=by
   rw[List.any_eq_false]
   intro y hy
   obtain⟨z,t,hkey⟩:=hk y (Array.mem_toList_iff.mp hy)
   simp[DictEntry.refKey,hkey]
  have a':¬ es.toList.any (·.refKey)=true:=by rw[a];exact Bool.false_ne_true
  rw[if_neg a']
  exact congrArg some e
theorem ObjM.look{h:Heap}{x dx C:Addr}{mA:Str->Option Value}(I:ObjM h x dx C mA):∃ od,W.InstAt h x (W.instObj C dx) C (some od)/\∀ name,W.lookIn name od=some (mA name) :=
 let ⟨od,ho,hl⟩:=iK I.ns
 ⟨od,⟨I.obj,rfl,rfl,ho⟩,hl⟩
section
variable{prog:Program}{w:World}{A:Around}{E:Value->Shared->Prop}{s:Shared}{K:W.Frag}{x dx C f:Addr}{mA:Str->Option Value}{name:Str}{v:Value}
theorem iL{expr:Bool}{Q:Value->Shared->Prop}(X:K.In s.heap)(I:ObjM s.heap x dx C mA)(hg:W.plainGet K C name=true)(hh:W.hasDictIn K C=true)
  (ha:W.findIn K (.ref C) name=some none) (hv:mA name=some v) (hv':W.handedIn v=true) (h:Q v { s with toks:=s.toks+1 }) :
  wpAny (model prog w) A (getAttr (.ref x) name expr) Q E s:=by
 obtain⟨od,J,hl⟩:=I.look
 exact W.get_value X J (W.plainGet_of hg).1 (W.findObj_own hh ha rfl (by rw[hl,hv])) hv' h
theorem iM{pl:Sem Bool}{Q:Value × List Value->Shared->Prop}(X:K.In s.heap)(I:ObjM s.heap x dx C mA)(hg:W.plainGet K C name=true)
  (hf:W.findIn K (.ref C) name=some (some (.ref f))) (ht:W.isFn K (.ref f)=true) (hv:mA name=none) (h:Q (.ref f,[.ref x]) s) :
  wpAny (model prog w) A (getMethod (.ref x) name pl) Q E s:=by
 obtain⟨od,J,hl⟩:=I.look
 exact W.method_fn X J (W.plainGet_of hg).1 (W.plainGet_of hg).2 hf (beq_iff_eq.mp ht) (by show(W.lookIn name od).map (·.isSome)=some false;rw[hl,hv];rfl) h
theorem iN{ns:List Str}{Q:Unit->Shared->Prop}(X:K.In s.heap)(I:ObjM s.heap x dx C mA)
  (hs:W.findIn K (.ref C) "__setattr__"=some (some (.builtin "object.__setattr__"))) (hp:W.plainOver K C=true) (ht:W.takerIn K C name=some none) (hh:W.hasDictIn K C=true)
  (hw:PySem.Within mA ns) (hsz:ns.length<=sizeLine)
  (h:∀ h',ObjM h' x dx C (λy=>if y=name then some v else mA y)->Heap.SameBut dx s.heap h'->Q () { s with heap:=h',toks:=s.toks+2 }) :
  wpAny (model prog w) A (setAttr (.ref x) name v) Q E s:=by
 obtain⟨od,J,hl⟩:=I.look
 refine W.set_plain X J hs (W.osa_open (s:={ s with toks:=s.toks+1 }) (r:=none) X J hp ht λb=> ?_)
 obtain⟨cd,hc,hd'⟩:=W.any_some hh
 have hx:s.heap.get? x=some ⟨.ref C,some dx,.plain,#[]⟩:=I.obj
 refine wpAny_bind (wpAny_pure (wpAny_bind (wpAny_bind (wpAny_loadPart hx (wpAny_bind (W.Looks.here (s:={ s with toks:=s.toks+1 }) (W.looks_clsIn X hc) ?_))))))
 rw[hd']
 refine wpAny_pure (a:=some dx) (wpAny_bind (wpAny_pure (wpAny_bind ?_)))
 refine wpAny_nsSet1 (s:={ s with toks:=s.toks+1 }) I.ns λh' hn2 hs2=> ?_
 obtain⟨oD,esD,epD,hoD,hdD,hcD⟩:=hn2.count (PySem.Within.cons name v hw)
 refine wpAny_bind (wpAny_lookBehind hoD (by rw[hdD];exact pastItsLine_dict (Nat.le_trans hcD (by rw[List.length_cons];omega))) ?_)
 exact wpAny_pure (h _ ⟨(hs2.2 _ (Ne.symm I.ne)).trans I.obj,hn2,I.ne⟩ hs2)
theorem iO{R:Result->Shared->Prop}{vs:List Value}{kw:List (Str × Value)}(X:K.In s.heap)(hm:W.makesIn K C=true)
  (hi:W.findIn K (.ref C) "__init__"=some (some (.ref f))) (hf:W.typeIn K (.ref f)=some (.type "function"))
  (h:codeAny (model prog w) (A.under (.builtin "type.__call__" ⟨.ref C::vs,kw⟩)) (.call (.ref f) ⟨.ref (s.heap.objs.size+1)::vs,kw⟩) (W.InitBack (s.heap.objs.size+1) R)
   { s with heap:=(s.heap.push W.emptyDict).push (W.instObj C s.heap.objs.size) }) :
  codeAny (model prog w) A (.call (.ref C) ⟨vs,kw⟩) R s:=by
 obtain⟨hh,g,d,t,os⟩:=s
 exact W.make_core (W.makes_of X hm) (W.looks_findIn X hi) (λself=>W.bind_fn X self hf) (.inl rfl) h
theorem iP{R:Result->Shared->Prop}(X:K.In s.heap)(hm:W.makesIn K C=true)
  (hi:W.findIn K (.ref C) "__init__"=some (some (.builtin "object.__init__")))
  (hb:∀ self,W.Looks (model prog w) s.heap (bindSpecial (.builtin "object.__init__") self) (.builtin "object.__init__",[self]))
  (h:codeAny (model prog w) (A.under (.builtin "type.__call__" ⟨[.ref C],[]⟩)) (.call (.builtin "object.__init__") ⟨[.ref (s.heap.objs.size+1)],[]⟩) (W.InitBack (s.heap.objs.size+1) R)
   { s with heap:=(s.heap.push W.emptyDict).push (W.instObj C s.heap.objs.size) }) :
  codeAny (model prog w) A (.call (.ref C) ⟨[],[]⟩) R s:=by
 obtain⟨hh,g,d,t,os⟩:=s
 exact W.make_core (W.makes_of X hm) (W.looks_findIn X hi) hb (.inr ⟨rfl,rfl⟩) h
end
def A0(f:Str)(v:V):List (Str × V)->List (Str × V)
 | []=>[(f,v)]
 | (g,x)::r=>if g=f then(g,v)::r else(g,x)::A0 f v r
theorem UV(f g:Str)(v:V):∀ fs:List (Str × V),(A0 f v fs).lookup g=if g=f then some v else fs.lookup g
 | []=>by
  show List.lookup g [(f,v)]=_
  by_cases h:g=f
  ·have hb:(g == f)=true:=beq_iff_eq.mpr h
   simp only[List.lookup,hb,if_pos h]
  ·have hb:(g == f)=false:=beq_eq_false_iff_ne.mpr h
   simp only[List.lookup,hb,if_neg h]
 | (k,x)::r=>by
  have ih:=UV f g v r
  rw[show A0 f v ((k,x)::r)=(if k=f then(k,v)::r else(k,x)::A0 f v r)from rfl]
  by_cases hk:k=f
  ·rw[if_pos hk]
   by_cases h:g=k
   ·have hb:(g == k)=true:=beq_iff_eq.mpr h
    simp only[List.lookup,hb,if_pos (h.trans hk)]
   ·have hb:(g == k)=false:=beq_eq_false_iff_ne.mpr h
    simp only[List.lookup,hb,if_neg (λe:g=f=>h (e.trans hk.symm))]
  ·rw[if_neg hk]
   by_cases h:g=k
   ·have hb:(g == k)=true:=beq_iff_eq.mpr h
    simp only[List.lookup,hb,if_neg (λe:g=f=>hk (h.symm.trans e))]
   ·have hb:(g == k)=false:=beq_eq_false_iff_ne.mpr h
    simp only[List.lookup,hb]
    exact ih
theorem OR(f:Str)(v:V):∀ fs:List (Str × V),f∈(A0 f v fs).map (·.1)/\∀ g,g∈fs.map (·.1)->g∈(A0 f v fs).map (·.1)
 | []=>⟨by simp[A0],λg h=>by simp at h⟩
 | (k,x)::r=>by
  obtain⟨i1,i2⟩:=OR f v r
  rw[show A0 f v ((k,x)::r)=(if k=f then(k,v)::r else(k,x)::A0 f v r)from rfl]
  by_cases hk:k=f
  ·rw[if_pos hk]
   subst hk
   exact⟨by simp,λg h=>by simpa using h⟩
  ·rw[if_neg hk]
   refine⟨?_,λg h=> ?_⟩
   ·rw[List.map_cons]
    exact List.mem_cons_of_mem _ i1
   ·rw[List.map_cons]at h ⊢
    rcases List.mem_cons.mp h with e | e
    ·exact List.mem_cons.mpr (.inl e)
    ·exact List.mem_cons_of_mem _ (i2 g e)
theorem MU(f:Str)(v:V):∀ fs:List (Str × V),(A0 f v fs).length<=fs.length+1
 | []=>by simp[A0]
 | (k,x)::r=>by
  have ih:=MU f v r
  rw[show A0 f v ((k,x)::r)=(if k=f then(k,v)::r else(k,x)::A0 f v r)from rfl]
  by_cases hk:k=f
  ·rw[if_pos hk,List.length_cons,List.length_cons];omega
  ·rw[if_neg hk,List.length_cons,List.length_cons];omega
theorem RelO.some_of{v:V}{o:Option Value}(r:RelO (some v) o):∃ u,o=some u/\RelV v u:=by
 cases o with
 | none=>exact(show False from r).elim
 | some u=>exact⟨u,rfl,r⟩
theorem RelO.none_of{o:Option Value}(r:RelO none o):o=none:=by
 cases o with
 | none=>rfl
 | some u=>exact(show False from r).elim
theorem iQ{v:V}{u:Value}(r:RelV v u):W.handedIn u=true:=by
 cases v with
 | non=>cases (show u=Value.none from r);rfl
 | bl b=>cases (show u=Value.bool b from r);rfl
 | int i=>obtain⟨t,e⟩:=(show ∃ t,u=Value.int i t from r);cases e;rfl
 | str x=>obtain⟨t,e⟩:=(show ∃ t,u=Value.str x t from r);cases e;rfl
 | byt b=>obtain⟨t,e⟩:=(show ∃ t,u=Value.bytes b t from r);cases e;rfl
 | flt b=>obtain⟨t,e⟩:=(show ∃ t,u=Value.float b t from r);cases e;rfl
 | ref a=>cases (show u=Value.ref a from r);rfl
 | ty n=>cases (show u=Value.type n from r);rfl
section
variable{P:Program}{w:World}{H H':Hp}{h h':Heap}{a C dx:Addr}{fs fs':List (Str × V)}
theorem MV(hok:HOk P w H h)(e:H a=some (.ins C dx fs)):∃ mA,ObjM h a dx C mA/\(∀ f,RelO (fs.lookup f) (mA f))/\PySem.Within mA (fs.map (·.1))/\fs.length<=1000/\H dx=some (.own a):=by
 obtain⟨d,z,ne,ob,mA,n,r,q⟩:=(show ObjOk P w H h a (.ins C dx fs)from hok a _ e)
 exact⟨mA,⟨ob,n,ne⟩,r,q,z,d⟩
end
structure Cls(K:W.Frag)(C:Addr):Prop where
 pg:W.plainGet K C Str.empty=true
 hd:W.hasDictIn K C=true
 po:W.plainOver K C=true
 sa:W.findIn K (.ref C) "__setattr__"=some (some (.builtin "object.__setattr__"))
theorem Cls.get{K:W.Frag}{C:Addr}(c:Cls K C)(f:Str):W.plainGet K C f=true:=c.pg
def NoAttr(K:W.Frag)(C:Addr)(f:Str):Prop:=W.findIn K (.ref C) f=some none
theorem NoAttr.taker{K:W.Frag}{C:Addr}{f:Str}(n:NoAttr K C f):W.takerIn K C f=some none:=by
 unfold W.takerIn
 rw[show W.findIn K (.ref C) f=some none from n]
 rfl
structure Kz(K:W.Frag)(C:Addr)(f:Str)(v:V)(u:Value):Prop where
 at_:W.findIn K (.ref C) f=some (some u)
 rel:RelV v u
 get:W.specialIn K u "__get__"=some none
 cp:W.copiedNames.contains f=false
structure MW(K:W.Frag)(C:Addr)(m:Str)(f:Addr):Prop where
 at_:W.findIn K (.ref C) m=some (some (.ref f))
 fn:W.isFn K (.ref f)=true
 kp:W.keepIn K (.ref f)=true
section
variable{X:Cx}{pins:List (Addr × Obj)}{σ:St}{H:Hp}{s:Shared}{a C dx:Addr}{fs:List (Str × V)}{f:Str}{v:V}{A:Around}{E:Value->Shared->Prop}
theorem UW{b:Bool}{Q:Value->Shared->Prop}(I:Inv X pins σ H s)(e:H a=some (.ins C dx fs))(c:Cls X.K C)(n:NoAttr X.K C f)(l:fs.lookup f=some v)
  (h:∀ u s',Inv X pins σ H s'->RelV v u->Q u s'):wpAny (model X.prog X.w) A (getAttr (.ref a) f b) Q E s:=by
 obtain⟨mA,O,r,_,_,_⟩:=MV I.hok e
 obtain⟨u,hu,ru⟩:=RelO.some_of (v:=v) (o:=mA f) (by rw[<-l];exact r f)
 exact iL I.kIn O (c.get f) c.hd n hu (iQ ru) (h u _ (I.tok _) ru)
theorem UX{m:Str}{g:Addr}{pl:Sem Bool}{Q:Value × List Value->Shared->Prop}(I:Inv X pins σ H s)(e:H a=some (.ins C dx fs))(c:Cls X.K C)(k:MW X.K C m g)(l:fs.lookup m=none)
  (h:Q (.ref g,[.ref a]) s):wpAny (model X.prog X.w) A (getMethod (.ref a) m pl) Q E s:=by
 obtain⟨mA,O,r,_,_,_⟩:=MV I.hok e
 have hn:mA m=none:=RelO.none_of (by rw[<-l];exact r m)
 exact iM I.kIn O (c.get m) k.at_ k.fn hn h
theorem UY{y:V}{u:Value}{Q:Unit->Shared->Prop}(I:Inv X pins σ H s)(e:H a=some (.ins C dx fs))(c:Cls X.K C)(n:NoAttr X.K C f)(hl:fs.length<1000)(ry:RelV y u)
  (h:∀ s',Inv X pins σ (upd H a (.ins C dx (A0 f y fs))) s'->Q () s'):wpAny (model X.prog X.w) A (setAttr (.ref a) f u) Q E s:=by
 obtain⟨mA,O,r,wi,_,ho⟩:=MV I.hok e
 have hz:(fs.map (·.1)).length<=sizeLine:=by rw[List.length_map,sizeLine_eq];omega
 refine iN I.kIn O c.sa c.po n.taker c.hd wi hz λh' O' sb=>h _ ?_
 have hd:∃ o,h'.get? dx=some o:=let ⟨o,_,_,e',_⟩:=O'.ns;⟨o,e'⟩
 refine I.write (x:=a) (e:=dx) (by rw[e];exact True.intro) (.inr ho) (λb q hb z=>(sb.2 b hb).trans z) hd ?_
 refine⟨by rw[AI O.ne];exact ho,?_,O.ne,O'.obj,_,O'.ns,λg=> ?_,λg hg=> ?_⟩
 ·have:=MU f y fs;omega
 ·show RelO ((A0 f y fs).lookup g) (if g=f then some u else mA g)
  rw[UV]
  by_cases q:g=f
  ·rw[if_pos q,if_pos q];exact ry
  ·rw[if_neg q,if_neg q];exact r g
 ·by_cases q:g=f
  ·rw[q];exact(OR f y fs).1
  ·refine(OR f y fs).2 g (wi g λz=>hg ?_)
   show(if g=f then some u else mA g)=none
   rw[if_neg q];exact z
theorem Inv.made(I:Inv X pins σ H s):Inv X pins σ (upd (upd H s.heap.objs.size (.own (s.heap.objs.size+1))) (s.heap.objs.size+1) (.ins C s.heap.objs.size []))
  { s with heap:=(s.heap.push W.emptyDict).push (W.instObj C s.heap.objs.size) }:=by
 have e1:(s.heap.push W.emptyDict).get? s.heap.objs.size=some W.emptyDict:=Heap.get?_push_size s.heap rfl
 have e2:((s.heap.push W.emptyDict).push (W.instObj C s.heap.objs.size)).get? (s.heap.objs.size+1)=some (W.instObj C s.heap.objs.size):=by
  have:=Heap.get?_push_size (s.heap.push W.emptyDict) (o:=W.instObj C s.heap.objs.size) rfl
  rwa [Heap.size_push]at this
 have e3:(s.heap.push W.emptyDict).Ns s.heap.objs.size (λ_=>none):=⟨W.emptyDict,#[],_,e1,rfl,(λe he=>absurd he (by simp)),λ_=>rfl⟩
 have I1:=I.laid (a:=s.heap.objs.size) (o:=.own (s.heap.objs.size+1)) (h':=s.heap.push W.emptyDict) (t':=s.toks) (λb u q=>Heap.get?_push_of_some _ q) (Nat.le_refl _) ⟨_,e1⟩
 refine I1.laid (a:=s.heap.objs.size+1) (o:=.ins C s.heap.objs.size []) (t':=s.toks) (λb u q=>Heap.get?_push_of_some _ q) (Nat.le_of_eq (Heap.size_push _ _)) ?_
 have ne:s.heap.objs.size≠s.heap.objs.size+1:=Nat.ne_of_lt (Nat.lt_succ_self _)
 refine⟨by rw[AI ne,AK],Nat.zero_le _,ne,e2,λ_=>none,(Heap.Ns1.of_empty e3).at λo q=>Heap.get?_push_of_some _ q,λ_=>True.intro,λy hy=>absurd rfl hy⟩
theorem iR{prog:Program}{w:World}{env:Env}{e:Expr}{f:Str}{pos:Pos}{s:Shared}{Q:Value->Shared->Prop}(hb:attributeBase e f env (eval e env)=eval e env)
  (h:wpAny (model prog w) A (eval e env) (λo s₁=>wpAny (model prog w) A (getAttr o f true) Q E s₁) E s):wpAny (model prog w) A (eval (.Attribute e f pos) env) Q E s :=
 Attribute_any_ h (by rw[arm_eval_Attribute,hb])
end
def BJ(K:W.Frag)(ta:TE)(f:Str):TE:=λσ H Q=>ta σ H λx H1=>∃ a C dx fs v,x=.ref a/\H1 a=some (.ins C dx fs)/\Cls K C/\NoAttr K C f/\fs.lookup f=some v/\Q v H1
def D1(K:W.Frag)(ta tv:TE)(f:Str):TS:=λD σ H=>tv σ H λy H1=>ta σ H1 λx H2=>∃ a C dx fs,x=.ref a/\H2 a=some (.ins C dx fs)/\Cls K C/\NoAttr K C f/\fs.length<1000 ∧
 D.nx σ (upd H2 a (.ins C dx (A0 f y fs)))
def UZ(X:Cx)(op:Operator)(rd:V->V->Hp->VK->Prop):Prop :=
 ∀ (pins:List (Addr × Obj)) (s:Shared) (σ:St) (H:Hp) (x y:V) (u v:Value) (Q:VK),Inv X pins σ H s->RelV x u->RelV y v->rd x y H Q->wpAny (model X.prog X.w) X.A (inplaceOp op u v) (EP X pins σ Q) X.xe s
def MX(K:W.Frag)(ta tv:TE)(rd:V->V->Hp->VK->Prop)(f:Str):TS:=λD σ H=>ta σ H λx H1=>∃ a C dx fs v,x=.ref a/\H1 a=some (.ins C dx fs)/\Cls K C/\NoAttr K C f/\fs.lookup f=some v ∧
 tv σ H1 λy H2=>rd v y H2 λz H3=>∃ dx' fs',H3 a=some (.ins C dx' fs')/\fs'.length<1000/\D.nx σ (upd H3 a (.ins C dx' (A0 f z fs')))
section
variable{X:Cx}{o e value:Expr}{f:Str}{pos pos' tpos:Pos}{ta tv:TE}
theorem BN(he:PE X e ta)(hb:attributeBase e f X.env (eval e X.env)=eval e X.env):PE X (.Attribute e f pos) (BJ X.K ta f):=by
 intro pins s σ H Q I h
 refine iR hb (AM (he pins s σ H _ I h) λu s1 ⟨x,H1,I1,rx,a,C,dx,fs,v,ex,ea,c,n,l,q⟩=> ?_)
 subst ex
 obtain rfl:u=Value.ref a:=rx
 exact UW I1 ea c n l λu' s2 I2 ru=>⟨v,H1,I2,ru,q⟩
theorem EG(ha:PE X o ta)(hv:PE X value tv)(hs:swapsWith value (some (.Attribute o f pos')) pos.line X.env=pure false):PS X (.Assign [.Attribute o f pos'] value pos) (D1 X.K ta tv f):=by
 intro pins s σ H D I h
 refine plainObj_wpAny_Assign_Attribute (AM (hv pins s σ H _ I h) λu s1 ⟨y,H1,I1,ry,q⟩=>AM (ha pins s1 σ H1 _ I1 q) λov s2 ⟨x,H2,I2,rx,a,C,dx,fs,ex,ea,c,n,l,q2⟩=> ?_) hs
 subst ex
 obtain rfl:ov=Value.ref a:=rx
 exact UY I2 ea c n l ry λs3 I3=>⟨σ,_,I3,q2⟩
theorem U2{op:Operator}{rd:V->V->Hp->VK->Prop}(ha:PE X o ta)(hv:PE X value tv)(hop:UZ X op rd):PS X (.AugAssign (.Attribute o f tpos) op value pos) (MX X.K ta tv rd f):=by
 intro pins s σ H D I h
 refine wpAny_AugAssign_AttributeAny (AM (ha pins s σ H _ I h) λov s1 ⟨x,H1,I1,rx,a,C,dx,fs,v,ex,ea,c,n,l,q⟩=> ?_)
 subst ex
 obtain rfl:ov=Value.ref a:=rx
 refine UW I1 ea c n l λu s2 I2 ru=>AM (hv pins s2 σ H1 _ I2 q) λw3 s3 ⟨y,H2,I3,ry,q3⟩=>AM (hop pins s3 σ H2 v y u w3 _ I3 ru ry q3) λw4 s4 ⟨z,H3,I4,rz,dx',fs',ea',l',q4⟩=> ?_
 exact UY I4 ea' c n l' rz λs5 I5=>⟨σ,_,I5,q4⟩
def K0:V->V->Hp->VK->Prop:=λx y H Q=>∃ i j,x=.int i/\y=.int j/\Q (.int (i+j)) H
theorem U3:UZ X .Add K0:=by
 rintro pins s σ H x y u v Q I rx ry ⟨i,j,rfl,rfl,q⟩
 obtain⟨t,rfl⟩:=(show ∃ t,u=Value.int i t from rx)
 obtain⟨t',rfl⟩:=(show ∃ t',v=Value.int j t' from ry)
 exact PyProof.Rows.iadd_int ⟨.int (i+j),H,I.tok _,⟨_,rfl⟩,q⟩
end
section
variable{X:Cx}{pins:List (Addr × Obj)}{σ:St}{H:Hp}{s:Shared}{A:Around}{E:Value->Shared->Prop}{Q:Value->Shared->Prop}{c:Value}{b:Bool}
inductive DS(K:W.Frag)(H:Hp):V->Value->Prop where
 | non:DS K H .non (.type "NoneType")
 | bl (x:Bool):DS K H (.bl x) (.type "bool")
 | int (i:Int):DS K H (.int i) (.type "int")
 | str (x:Str):DS K H (.str x) (.type "str")
 | flt (x:UInt64):DS K H (.flt x) (.type "float")
 | lst {a:Addr} {xs:List V} (e:H a=some (.lst xs)):DS K H (.ref a) (.type "list")
 | frz {a:Addr} {o:Obj} {xs:List V} (e:H a=some (.frz o (.lst xs))):DS K H (.ref a) (.type "list")
 | tup {a:Addr} {xs:List V} (e:H a=some (.tup xs)):DS K H (.ref a) (.type "tuple")
 | dK {a:Addr} {kvs:List (AN × V)} (e:H a=some (.dK kvs)):DS K H (.ref a) (.type "dict")
 | dT {a:Addr} {kvs:List (List AN × V)} (e:H a=some (.dT kvs)):DS K H (.ref a) (.type "dict")
 | ins {a C dx:Addr} {fs:List (Str × V)} (e:H a=some (.ins C dx fs)) (cl:Cls K C) (ha:W.findIn K (.ref C) "__class__"=some (some (.builtin "object.__class__")))
   (hn:W.specialIn K (.builtin "object.__class__") "__get__"=some (some (.builtin "getset_descriptor.__get__"))) (htk:W.takesIn K (.builtin "object.__class__")=some true)
   (hm:W.mroIn K C (.type "object")=some true):DS K H (.ref a) (.ref C)
end
end L2
namespace L2
structure Room(k:Nat)(A:Around):Prop where
 hd:A.handled=none
 dp:A.depth+3 * k+5<recursionLimit
 un:A.units+16 * k+200<cLine
theorem Room.mono{j k:Nat}{A:Around}(r:Room k A)(h:j<=k):Room j A:=⟨r.hd,by have:=r.dp;omega,by have:=r.un;omega⟩
theorem Room.deeper{k:Nat}{A:Around}(r:Room (k+1) A)(env:Env):Room k (A.deeper env) :=
 ⟨r.hd,by have:=r.dp;show A.depth+1+3 * k+5<_;omega,by have:=r.un;show A.units+3+16 * k+200<_;omega⟩
theorem Room.in1{k:Nat}{A:Around}(r:Room (k+1) A):Room k A.in1 :=
 ⟨r.hd,by have:=r.dp;show A.depth+3 * k+5<_;omega,by have:=r.un;show A.units+1+16 * k+200<_;omega⟩
theorem iS{A:Around}{C:Addr}{us:List Value}{kw:List (Str × Value)}:(A.under (.builtin "type.__call__" ⟨.ref C::us,kw⟩)).depth=A.depth+1:=by
 first | rfl | simp[Around.under,Code.weight,Code.isCreation,Code.isGuard,Code.isCaller,Code.frames,Code.isFrame,guardIds]
theorem iT{A:Around}{C:Addr}{us:List Value}{kw:List (Str × Value)}:(A.under (.builtin "type.__call__" ⟨.ref C::us,kw⟩)).units=A.units+1:=by
 first | rfl | simp[Around.under,Code.cUnits,Code.frames,Code.isFrame]
theorem Room.make{k:Nat}{A:Around}(r:Room (k+1) A)(C:Addr)(us:List Value)(kw:List (Str × Value)):Room k (A.under (.builtin "type.__call__" ⟨.ref C::us,kw⟩)) :=
 ⟨r.hd,by have:=r.dp;rw[iS];omega,by have:=r.un;rw[iT];omega⟩
theorem Room.depth{k:Nat}{A:Around}(r:Room k A):A.depth<recursionLimit:=by have:=r.dp;omega
theorem Room.units{k:Nat}{A:Around}(r:Room k A):A.units+64<cLine:=by have:=r.un;omega
def AE:TA:=λ_ H Q=>Q [] H
def AC(ta:TE)(tr:TA):TA:=λσ H Q=>ta σ H λx H1=>tr σ H1 λxs H2=>Q (x::xs) H2
section
variable{X:Cx}{e:Expr}{es:List Expr}{te:TE}{t:TA}{pos:Pos}
theorem AG:PA X [] AE:=λ_ _ _ _ H Q I h=>Calls.spliced_nil ⟨[],H,I,.nil,h⟩
theorem AD(ha:PE X e te)(hr:PA X es t)(hs:starEach (e::es) X.env=(false,eval e X.env)::starEach es X.env:=by rfl):PA X (e::es) (AC te t):=by
 intro pos pins s σ H Q I h
 rw[hs]
 show wpAny _ _ (spliced ((false,eval e X.env)::backTo pos (starEach es X.env))) _ _ s
 refine Calls.spliced_cons (AM (ha pins s σ H _ I h) λu s1 ⟨x,H1,I1,r1,q1⟩=> ?_)
 exact AM (hr pos pins s1 σ H1 _ I1 q1) λus s2 ⟨xs,H2,I2,r2,q2⟩=>⟨x::xs,H2,I2,.cons r1 r2,q2⟩
def D2(t:TA):TE:=λσ H Q=>t σ H λxs H1=>xs.length<=sizeLine/\∀ p,H1 p=none->Q (.ref p) (upd H1 p (.tup xs))
def C1(t:TA):TE:=λσ H Q=>t σ H λxs H1=>xs.length<=sizeLine/\∀ p,H1 p=none->Q (.ref p) (upd H1 p (.lst xs))
theorem EH{x1}(h:PA X es t):PE X (.Tuple es x1 pos) (D2 t):=by
 intro pins s σ H Q I hq
 refine wpAny_Tuple_spliced (AM (h pos pins s σ H _ I hq) λus s1 ⟨xs,H1,I1,r,z,q⟩=>⟨by rw[<-r.length];exact z,?_⟩)
 have hf:H1 s1.heap.objs.size=none:=I1.hok.fresh (Nat.le_refl _)
 refine⟨.ref s1.heap.objs.size,upd H1 s1.heap.objs.size (.tup xs),I1.laid (t':=s1.toks) (λb u e=>Heap.get?_push_of_some _ e) (Nat.le_refl _) ?_,rfl,q _ hf⟩
 exact⟨z,us,r,⟨_,Heap.get?_push_size _ rfl,rfl,_,rfl⟩⟩
theorem DC(h:PA X es t):PE X (.List es pos) (C1 t):=by
 intro pins s σ H Q I hq
 refine wpAny_List_spliced (AM (h pos pins s σ H _ I hq) λus s1 ⟨xs,H1,I1,r,z,q⟩=>⟨by rw[<-r.length];exact z,?_⟩)
 have hf:H1 s1.heap.objs.size=none:=I1.hok.fresh (Nat.le_refl _)
 refine⟨.ref s1.heap.objs.size,upd H1 s1.heap.objs.size (.lst xs),I1.laid (t':=s1.toks) (λb u e=>Heap.get?_push_of_some _ e) (Nat.le_refl _) ?_,rfl,q _ hf⟩
 exact⟨z,us,0,r,Heap.get?_push_size _ rfl⟩
end
abbrev Sp:=List V->Hp->VK->XK->Prop
abbrev D3:=List Env->Hp->Shared->XK->Value->Shared->Prop
structure Env0(P:Program)(w:World)(K:W.Frag)(mg:Str->Option Value)(base:Heap)(A:Around)(outer:List Env)(s:Shared)(H:Hp):Prop where
 frames:A.frames=some outer
 mod:Mod K mg base
 bs:∀ b o,base.get? b=some o->s.heap.get? b=some o/\H b=none
 bsz:base.objs.size<=s.heap.objs.size
 funs:s.heap.FunFrames base outer
 frf:∀ b∈CV outer,H b=none
 hok:HOk P w H s.heap
 bare:AllBare s.gens
def CE(outer:List Env)(P:Program)(w:World)(H:Hp)(s:Shared)(Q:VK)(u:Value)(s':Shared):Prop :=
 ∃ v H',s'.os=s.os/\AllBare s'.gens/\Un (CV outer) [] H H' s.heap s'.heap/\HOk P w H' s'.heap/\RelV v u/\Q v H'
def CR(CX:D3)(outer:List Env)(P:Program)(w:World)(H:Hp)(s:Shared)(Q:VK)(E:XK)(r:Result)(s':Shared):Prop :=
 match r with
 | .ok (.ret u)=>CE outer P w H s Q u s'
 | .ok _=>False
 | .error e=>CX outer H s E e s'
structure FnOk(P:Program)(w:World)(K:W.Frag)(mg:Str->Option Value)(base:Heap)(CX:D3)(k:Nat)(f:Addr)(fd:FuncData)(ps:List Str)(sp:Sp):Prop where
 len:∀ vs H Q E,sp vs H Q E->vs.length=ps.length
 run:∀ (A:Around) (outer:List Env) (s:Shared) (H:Hp) (args:Args) (us:List Value) (vs:List V) (Q:VK) (E:XK),Room k A->Env0 P w K mg base A outer s H->BindsTo s fd args (ps.zip us)->Vals vs us->sp vs H Q E →
  codeAny (model P w) A (.call (.ref f) args) (CR CX outer P w H s Q E) s
theorem FnOk.mono{P:Program}{w:World}{K:W.Frag}{mg:Str->Option Value}{base:Heap}{CX:D3}{j k:Nat}{f:Addr}{fd:FuncData}{ps:List Str}{sp:Sp}(F:FnOk P w K mg base CX j f fd ps sp)(h:j<=k) :
  FnOk P w K mg base CX k f fd ps sp:=⟨F.len,λA outer s H args us vs Q E hr=>F.run A outer s H args us vs Q E (hr.mono h)⟩
theorem FnOk.imp{P:Program}{w:World}{K:W.Frag}{mg:Str->Option Value}{base:Heap}{CX:D3}{k:Nat}{f:Addr}{fd:FuncData}{ps:List Str}{sp sp':Sp}(F:FnOk P w K mg base CX k f fd ps sp)
  (h:∀ vs H Q E,sp' vs H Q E->sp vs H Q E):FnOk P w K mg base CX k f fd ps sp' :=
 ⟨λvs H Q E q=>F.len vs H Q E (h _ _ _ _ q),λA outer s H args us vs Q E hr he hb hv hs=>F.run A outer s H args us vs Q E hr he hb hv (h _ _ _ _ hs)⟩
theorem Env0.make{P:Program}{w:World}{K:W.Frag}{mg:Str->Option Value}{base:Heap}{A:Around}{outer:List Env}{s:Shared}{H:Hp}(e:Env0 P w K mg base A outer s H)(C:Addr)(us:List Value)(kw:List (Str × Value)) :
  Env0 P w K mg base (A.under (.builtin "type.__call__" ⟨.ref C::us,kw⟩)) outer s H:=⟨by first | exact e.frames | (simpa [Around.under,Code.envs,Code.isFrame,pushEnvs]using e.frames),e.mod,e.bs,e.bsz,e.funs,e.frf,e.hok,e.bare⟩
theorem Env0.in1{P:Program}{w:World}{K:W.Frag}{mg:Str->Option Value}{base:Heap}{A:Around}{outer:List Env}{s:Shared}{H:Hp}(e:Env0 P w K mg base A outer s H) :
  Env0 P w K mg base A.in1 outer s H:=⟨e.frames,e.mod,e.bs,e.bsz,e.funs,e.frf,e.hok,e.bare⟩
section
variable{X:Cx}{pins:List (Addr × Obj)}{σ:St}{H:Hp}{s s':Shared}
theorem Inv.env0(I:Inv X pins σ H s):Env0 X.prog X.w X.K X.mg X.base X.A X.stack s H :=
 ⟨I.ok.frames,I.ok.mod,I.bs,Nat.le_trans I.ok.bsz I.sz,I.stack,I.stkFree,I.hok,I.bare⟩
theorem Inv.after{Q:VK}{u:Value}(I:Inv X pins σ H s)(h:CE X.stack X.prog X.w H s Q u s'):EP X pins σ Q u s':=by
 obtain⟨v,H',os,bare,un,hok,r,q⟩:=h
 obtain⟨hh,g,d,t,os'⟩:=s'
 obtain rfl:os'=s.os:=os
 exact⟨v,H',I.call (h':=hh) (g':=g) (d':=d) (t':=t) (ch:=[]) un hok bare (λb z=>absurd z (by simp)),r,q⟩
end
def A6(sp:Sp)(dvs:List V)(E:St->XK)(t:TA):TE:=λσ H Q=>t σ H λvs H1=>sp (vs++dvs) H1 Q (E σ)
def BF(C:Addr)(m:Str)(sp:Sp)(dvs:List V)(E:St->XK)(ta:TE)(t:TA):TE:=λσ H Q=>ta σ H λx H1=>∃ a dx fs,x=.ref a/\H1 a=some (.ins C dx fs)/\fs.lookup m=none ∧
 t σ H1 λvs H2=>sp (x::(vs++dvs)) H2 Q (E σ)
def FA(C:Addr)(sp:Sp)(dvs:List V)(E:St->XK)(t:TA):TE:=λσ H Q=>t σ H λvs H1=>∀ x dx,H1 x=none->H1 dx=none->dx≠x →
 sp (.ref x::(vs++dvs)) (upd (upd H1 dx (.own x)) x (.ins C dx [])) (λv H2=>v=.non/\Q (.ref x) H2) (E σ)
def Binds(K:W.Frag)(fd:FuncData)(ps:List Str)(ds:List Value):Prop :=
 ∀ (s:Shared) (us:List Value),K.In s.heap->(us++ds).length=ps.length->BindsTo s fd ⟨us,[]⟩ (ps.zip (us++ds))
theorem Binds.all{K:W.Frag}{fd:FuncData}{ps:List Str}(h:∀ us:List Value,us.length=ps.length->bindArgs fd ⟨us,[]⟩=pure (ps.zip us)):Binds K fd ps []:=λs us _ hl=>by
 rw[List.append_nil]at hl ⊢
 exact .of_eq (h us hl)
def D4(CX:D3)(X:Cx)(E:St->XK):Prop:=∀ (pins:List (Addr × Obj)) (σ:St) (H:Hp) (s:Shared) (e:Value) (s':Shared),Inv X pins σ H s->CX X.stack H s (E σ) e s'->X.xe e s'
section
variable{X:Cx}{CX:D3}{k:Nat}{f C:Addr}{fd:FuncData}{ps:List Str}{sp:Sp}{dvs:List V}{ds:List Value}{E:St->XK}{x m:Str}{p pos apos:Pos}{e o:Expr}{es:List Expr}{ta:TE}{t:TA}
theorem OS{pins:List (Addr × Obj)}{σ:St}{H:Hp}{s:Shared}{Q:VK}{us:List Value}{vs:List V}(F:FnOk X.prog X.w X.K X.mg X.base CX k f fd ps sp)(hr:Room k X.A)(hb:Binds X.K fd ps ds)(hd:Vals dvs ds)(hx:D4 CX X E)
  (I:Inv X pins σ H s) (r:Vals vs us) (h:sp (vs++dvs) H Q (E σ)):wpAny (model X.prog X.w) X.A (call (.ref f) us) (EP X pins σ Q) X.xe s:=by
 have r2:Vals (vs++dvs) (us++ds):=r.append hd
 have hl:(us++ds).length=ps.length:=by rw[<-r2.length];exact F.len _ _ _ _ h
 refine wpAny_call (codeAny_mono (F.run X.A X.stack s H ⟨us,[]⟩ (us++ds) (vs++dvs) Q (E σ) hr I.env0 (hb s us I.kIn hl) r2 h) λr s' hq=> ?_)
 cases r with
 | error e=>exact hx pins σ H s e s' I hq
 | ok fl =>
  cases fl with
  | ret u=>exact I.after hq
  | next=>exact False.elim hq
  | brk=>exact False.elim hq
  | cont=>exact False.elim hq
theorem iU(F:FnOk X.prog X.w X.K X.mg X.base CX k f fd ps sp)(hr:Room k X.A)(hg:Gl X x)(hm:X.mg x=some (.ref f))(hk:W.keepIn X.K (.ref f)=true)(hb:Binds X.K fd ps ds)(hd:Vals dvs ds)(hx:D4 CX X E)
  (ha:PA X (e::es) t) (hdb:(x ==("__debug__":Str))=false:=by decide) (he:starEach (e::es) X.env=(false,eval e X.env)::starEach es X.env:=by rfl) (hpl:(backTo pos (starEach es X.env)).any (·.1)=false:=by rfl) :
  PE X (.Call (.Name x p) (e::es) [] pos) (A6 sp dvs E t):=by
 intro pins s σ H Q I h
 refine wpAny_Call_Name_kw (KR I hg hm ?_ hdb)
 refine W.callWith_K (h₀:=X.base) I.ok.mod.kin hk (AM (ha pos pins s σ H _ I h) λus s1 ⟨vs,H1,I1,r,q⟩=>⟨I1.kIn,?_⟩) he hpl
 exact OS F hr hb hd hx I1 r q
theorem iV{pl:Sem Bool}(he:PE X o ta)(c:Cls X.K C)(hm:MW X.K C m f)(F:FnOk X.prog X.w X.K X.mg X.base CX k f fd ps sp)(hr:Room k X.A)(hb:Binds X.K fd ps ds)(hd:Vals dvs ds)(hx:D4 CX X E)(ha:PA X (e::es) t)
  (hst:starEach (e::es) X.env=(false,eval e X.env)::starEach es X.env:=by rfl) (hpl:(backTo pos (starEach es X.env)).any (·.1)=false:=by rfl)
  (ht:eval (.Call (.Attribute o m apos) (e::es) [] pos) X.env=(do
   let ov ← eval o X.env
   standAt apos.atName
   let (f,first) ← holding [ov] (getMethod ov m pl)
   callWith pos f first (backTo pos (starEach (e::es) X.env)) (backToKw pos (keywordEach [] X.env))):=by rfl) :
  PE X (.Call (.Attribute o m apos) (e::es) [] pos) (BF C m sp dvs E ta t):=by
 intro pins s σ H Q I h
 refine W.methodCall_KW (pl:=pl) (AM (he pins s σ H _ I h) λu s1 ⟨x,H1,I1,rx,a,dx,fs,ex,ea,l,q⟩=> ?_) ht
 subst ex
 obtain rfl:u=Value.ref a:=rx
 refine UX I1 ea c hm l ?_
 refine W.callWith_K (first:=[.ref a]) (h₀:=X.base) I.ok.mod.kin hm.kp (AM (ha pos pins s1 σ H1 _ I1 q) λus s2 ⟨vs,H2,I2,r,q2⟩=>⟨I2.kIn,?_⟩) hst hpl
 exact OS (us:=.ref a::us) (vs:=.ref a::vs) F hr hb hd hx I2 (.cons rfl r) q2
theorem iW{pl:Sem Bool}(he:PE X o ta)(c:Cls X.K C)(hm:MW X.K C m f)(F:FnOk X.prog X.w X.K X.mg X.base CX k f fd ps sp)(hr:Room k X.A)(hb:Binds X.K fd ps ds)(hd:Vals dvs ds)(hx:D4 CX X E)
  (ht:eval (.Call (.Attribute o m apos) [] [] pos) X.env=(do
   let ov ← eval o X.env
   standAt apos.atName
   let (f,first) ← holding [ov] (getMethod ov m pl)
   callWith pos f first (backTo pos (starEach [] X.env)) (backToKw pos (keywordEach [] X.env))):=by rfl) :
  PE X (.Call (.Attribute o m apos) [] [] pos) (BF C m sp dvs E ta AE):=by
 intro pins s σ H Q I h
 refine W.methodCall_KW (pl:=pl) (AM (he pins s σ H _ I h) λu s1 ⟨x,H1,I1,rx,a,dx,fs,ex,ea,l,q⟩=> ?_) ht
 subst ex
 obtain rfl:u=Value.ref a:=rx
 refine UX I1 ea c hm l ?_
 exact W.callWith_K0 (first:=[.ref a]) I1.kIn hm.kp (OS (us:=[.ref a]) (vs:=[.ref a]) F hr hb hd hx I1 (.cons rfl .nil) q)
structure Mk(K:W.Frag)(C f:Addr):Prop where
 makes:W.makesIn K C=true
 init:W.findIn K (.ref C) "__init__"=some (some (.ref f))
 fn:W.isFn K (.ref f)=true
 kp:W.keepIn K (.ref C)=true
theorem U4{pins:List (Addr × Obj)}{σ:St}{H:Hp}{s:Shared}{Q:VK}{us:List Value}{vs:List V}(M:Mk X.K C f)(F:FnOk X.prog X.w X.K X.mg X.base CX k f fd ps sp)(hr:Room (k+1) X.A)(hb:Binds X.K fd ps ds)(hd:Vals dvs ds)
  (hx:D4 CX X E) (I:Inv X pins σ H s) (r:Vals vs us)
  (h:∀ x dx,H x=none->H dx=none->dx≠x->sp (.ref x::(vs++dvs)) (upd (upd H dx (.own x)) x (.ins C dx [])) (λv H2=>v=.non/\Q (.ref x) H2) (E σ)) :
  wpAny (model X.prog X.w) X.A (call (.ref C) us) (EP X pins σ Q) X.xe s:=by
 have hq:=h (s.heap.objs.size+1) s.heap.objs.size (I.hok.fresh (Nat.le_succ _)) (I.hok.fresh (Nat.le_refl _)) (Nat.ne_of_lt (Nat.lt_succ_self _))
 have I2:=Inv.made (C:=C) I
 have r2:Vals (V.ref (s.heap.objs.size+1)::(vs++dvs)) (Value.ref (s.heap.objs.size+1)::(us++ds)):=.cons rfl (r.append hd)
 have hl:(Value.ref (s.heap.objs.size+1)::us++ds).length=ps.length:=by
  have e:=r2.length
  rw[F.len _ _ _ _ hq]at e
  exact e.symm
 refine wpAny_call (iO (f:=f) I.kIn M.makes M.init (beq_iff_eq.mp M.fn) (codeAny_mono (F.run _ X.stack _ _ ⟨Value.ref (s.heap.objs.size+1)::us,[]⟩ (Value.ref (s.heap.objs.size+1)::(us++ds)) _ _ (E σ) (hr.make C us [])
  (I2.env0.make C us []) (hb _ (Value.ref (s.heap.objs.size+1)::us) I2.kIn hl) r2 hq) λr s' hq'=> ?_))
 cases r with
 | error e=>exact hx pins σ _ _ e s' I2 hq'
 | ok fl =>
  cases fl with
  | ret u =>
   obtain⟨v,H',I3,rv,ev,q3⟩:=I2.after hq'
   subst ev
   exact⟨rv,⟨V.ref (s.heap.objs.size+1),H',I3,rfl,q3⟩⟩
  | next=>exact False.elim hq'
  | brk=>exact False.elim hq'
  | cont=>exact False.elim hq'
theorem iX(M:Mk X.K C f)(F:FnOk X.prog X.w X.K X.mg X.base CX k f fd ps sp)(hr:Room (k+1) X.A)(hg:Gl X x)(hm:X.mg x=some (.ref C))(hb:Binds X.K fd ps ds)(hd:Vals dvs ds)(hx:D4 CX X E)
  (ha:PA X (e::es) t) (hdb:(x ==("__debug__":Str))=false:=by decide) (he:starEach (e::es) X.env=(false,eval e X.env)::starEach es X.env:=by rfl) (hpl:(backTo pos (starEach es X.env)).any (·.1)=false:=by rfl) :
  PE X (.Call (.Name x p) (e::es) [] pos) (FA C sp dvs E t):=by
 intro pins s σ H Q I h
 refine wpAny_Call_Name_kw (KR I hg hm ?_ hdb)
 refine W.callWith_K (h₀:=X.base) I.ok.mod.kin M.kp (AM (ha pos pins s σ H _ I h) λus s1 ⟨vs,H1,I1,r,q⟩=>⟨I1.kIn,?_⟩) he hpl
 exact U4 M F hr hb hd hx I1 r q
theorem iY(M:Mk X.K C f)(F:FnOk X.prog X.w X.K X.mg X.base CX k f fd ps sp)(hr:Room (k+1) X.A)(hg:Gl X x)(hm:X.mg x=some (.ref C))(hb:Binds X.K fd ps ds)(hd:Vals dvs ds)(hx:D4 CX X E)
  (hdb:(x ==("__debug__":Str))=false:=by decide):PE X (.Call (.Name x p) [] [] pos) (FA C sp dvs E AE):=by
 intro pins s σ H Q I h
 refine wpAny_Call_Name_kw (KR I hg hm ?_ hdb)
 exact W.callWith_K0 I.kIn M.kp (U4 (us:=[]) M F hr hb hd hx I .nil h)
end
section
variable{X:Cx}{CX:D3}{k:Nat}{f C:Addr}{fd:FuncData}{ps ks:List Str}{sp:Sp}{E:St->XK}{x m:Str}{p pos apos kpos:Pos}{e o:Expr}{es:List Expr}{kws:List Keyword}{te ta:TE}{t tk:TA}{nm:Option Str}
structure Lb(K:W.Frag)(fd:FuncData)(ps ks:List Str)(g:List Value->List Value->List Value)(gV:List V->List V->List V):Prop where
 to:∀ (s:Shared) (us ws:List Value),K.In s.heap->(g us ws).length=ps.length->BindsTo s fd ⟨us,ks.zip ws⟩ (ps.zip (g us ws))
 rel:∀ {vs:List V} {us:List Value} {zs:List V} {ws:List Value},Vals vs us->Vals zs ws->Vals (gV vs zs) (g us ws)
variable{g:List Value->List Value->List Value}{gV:List V->List V->List V}
end
structure FnScope(N P:List Str)(sc:Scope):Prop where
 kind:sc.kind=.function
 co:sc.isCoroutine=false
 gen:sc.isGenerator=false
 nd:N.Nodup
 pre:N.take P.length=P
 par:∀ x∈P,sc.names.lookup x=some .local\/sc.names.lookup x=some .cell
 nofree:∀ y∈sc.names,y.2≠.free
theorem U5{kindOf:Str->Option NameKind}{x:Str}:∀ {binds:List (Str × Value)} {m:Str->Option Value},(∀ v,(x,v)∉binds)->bindL kindOf binds m x=m x
 | [],_,_=>rfl
 | (n,v)::r,m,h=>by
  unfold bindL
  rw[U5 λw hw=>h w (List.mem_cons_of_mem _ hw)]
  split
  ·have:x≠n:=by rintro rfl;exact h v List.mem_cons_self
   simp[this]
  ·rfl
theorem U6{kindOf:Str->Option NameKind}{x:Str}:∀ {binds:List (Str × Value)} {m:Str->Option Value},(∀ v,(x,v)∉binds)->bindC kindOf binds m x=m x
 | [],_,_=>rfl
 | (n,v)::r,m,h=>by
  unfold bindC
  rw[U6 λw hw=>h w (List.mem_cons_of_mem _ hw)]
  split
  ·rfl
  ·have:x≠n:=by rintro rfl;exact h v List.mem_cons_self
   simp[this]
theorem U7{kindOf:Str->Option NameKind}{x:Str}{v:Value}:∀ {P:List Str} {vs:List Value} {i:Nat} {m:Str->Option Value},P.Nodup->P[i]? =some x->vs[i]? =some v->kindOf x=some .local →
  bindL kindOf (P.zip vs) m x=some v
 | [],_,_,_,_,h,_,_=>by simp at h
 | _::_,[],_,_,_,_,h,_=>by simp at h
 | p::P,w::vs,0,m,nd,h1,h2,hk=>by
  simp at h1 h2;subst h1;subst h2
  show bindL kindOf ((p,w)::P.zip vs) m p=_
  unfold bindL
  rw[U5 λv hv=>(List.nodup_cons.mp nd).1 (List.of_mem_zip hv).1,if_pos hk]
  simp
 | p::P,w::vs,i+1,m,nd,h1,h2,hk=>by
  show bindL kindOf ((p,w)::P.zip vs) m x=_
  unfold bindL
  exact U7 (i:=i) (List.nodup_cons.mp nd).2 (by simpa using h1) (by simpa using h2) hk
theorem U8{kindOf:Str->Option NameKind}{x:Str}{v:Value}:∀ {P:List Str} {vs:List Value} {i:Nat} {m:Str->Option Value},P.Nodup->P[i]? =some x->vs[i]? =some v->kindOf x≠some .local →
  bindC kindOf (P.zip vs) m x=some v
 | [],_,_,_,_,h,_,_=>by simp at h
 | _::_,[],_,_,_,_,h,_=>by simp at h
 | p::P,w::vs,0,m,nd,h1,h2,hk=>by
  simp at h1 h2;subst h1;subst h2
  show bindC kindOf ((p,w)::P.zip vs) m p=_
  unfold bindC
  rw[U6 λv hv=>(List.nodup_cons.mp nd).1 (List.of_mem_zip hv).1,if_neg hk]
  simp
 | p::P,w::vs,i+1,m,nd,h1,h2,hk=>by
  show bindC kindOf ((p,w)::P.zip vs) m x=_
  unfold bindC
  exact U8 (i:=i) (List.nodup_cons.mp nd).2 (by simpa using h1) (by simpa using h2) hk
def A5(N:List Str)(vs:List V):St:=vs.map some++List.replicate (N.length - vs.length) none
def FB(CX:D3)(P:Program)(w:World)(K:W.Frag)(mg:Str->Option Value)(base:Heap)(N:List Str)(qual:Str)(scope:Scope)(f:Addr)(cd:Value)(A:Around)(outer:List Env)(s:Shared)(H:Hp)(E:XK):Cx where
 prog:=P
 w:=w
 K:=K
 mg:=mg
 base:=base
 A:=A.deeper (envOfC qual scope s.heap.objs.size f cd)
 N:=N
 s₀:=s
 H₀:=H
 env:=envOfC qual scope s.heap.objs.size f cd
 outer:=outer
 stack:=envOfC qual scope s.heap.objs.size f cd::outer
 ex:=[]
 calm:=true
 fn:=λ_=>true
 pn:=[]
 xe:=λe s'=>wpAny (model P w) (A.deeper (envOfC qual scope s.heap.objs.size f cd)) (leaving (envOfC qual scope s.heap.objs.size f cd) e) (λ_ s''=>CX outer H s E e s'') (λe' s''=>CX outer H s E e' s'') s'
theorem U9{sc:Scope}{n:Nat}{x:Str}(h:sc.names.lookup x=some .cell):∃ c,(cellsFrom n sc.names []).lookup x=some c:=by
 have q:=W.cellsFrom_some sc.names n [] (.inl h)
 exact Option.isSome_iff_exists.mp q
theorem iZ{CX:D3}{P:Program}{w:World}{K:W.Frag}{mg:Str->Option Value}{base:Heap}{N ps:List Str}{qual:Str}{scope:Scope}{f:Addr}{cd:Value}{A:Around}{outer:List Env}{s s1:Shared}{H:Hp}{E:XK}{us:List Value}{vs:List V}
  (S:FnScope N ps scope) (hd:A.handled=none) (e0:Env0 P w K mg base A outer s H) (hl:vs.length=ps.length) (r:Vals vs us)
  (x:InCallC s s.heap.objs.size (bindL (envOfC qual scope s.heap.objs.size f cd).kindOf (ps.zip us) λ_=>none) (cellsFrom (s.heap.objs.size+1) scope.names []) (bindC (envOfC qual scope s.heap.objs.size f cd).kindOf (ps.zip us) λ_=>none) s1) :
  Inv (FB CX P w K mg base N qual scope f cd A outer s H E) [] (A5 N vs) H s1:=by
 have hpl:ps.length<=N.length:=by have:=congrArg List.length S.pre;rw[List.length_take]at this;omega
 obtain⟨h1,tk,rfl,hk⟩:=x.done
 have noA:∀ b:Addr,b∉(FB CX P w K mg base N qual scope f cd A outer s H E).ex:=λb z=>absurd (show b∈([]:List Addr)from z) (by simp)
 refine⟨⟨e0.mod,S.kind,rfl,rfl,Nat.le_refl _,λy z c h1 h2=> ?_,λy hy=> ?_,λy c _ h=> ?_,λ_=>hd,Around.frames_deeper e0.frames,.inr ⟨rfl,rfl⟩,λb z=>absurd z (noA b),e0.bs,e0.bsz,λb _ _=>noA b,λb z=>absurd z (noA b),e0.funs,e0.frf⟩,
  rfl,e0.bare,Un.kept hk,⟨_,x.toInCall.ns,λi y v h1 h2 h3=> ?_⟩,λy c h=>⟨_,x.cell y c h⟩,e0.hok.fresh (Nat.le_refl _),λy c h=> ?_,λp hp=>absurd (show p∈([]:List (Addr × Obj))from hp) (by simp),e0.hok.kept hk,?_⟩
 ·exact name_of_addr x.apart (PySem.mem_of_lookup h1) (PySem.mem_of_lookup h2)
 ·have hy:scope.names.lookup y=some .cell\/scope.names.lookup y=some .free:=hy
  rcases hy with hy | hy
  ·exact U9 hy
  ·exact absurd rfl (S.nofree _ (PySem.mem_of_lookup hy))
 ·exact Nat.le_of_lt (x.above y c (PySem.mem_of_lookup h))
 ·have hi:i<vs.length:=by
   unfold A5 at h2
   by_cases hi:i<vs.length
   ·exact hi
   ·rw[List.getElem?_append_right (by simpa using hi)]at h2
    rw[List.getElem?_replicate]at h2
    split at h2<;>cases h2
  have ha:vs[i]? =some v:=by
   unfold A5 at h2
   rw[List.getElem?_append_left (by simpa using hi),List.getElem?_map]at h2
   cases e:vs[i]? with
   | none=>rw[e]at h2;cases h2
   | some a=>rw[e]at h2;cases h2;rfl
  obtain⟨u,hu,rv⟩:=r.get ha
  have hp:ps[i]? =some y:=by
   rw[<-S.pre,List.getElem?_take_of_lt (by omega)];exact h1
  have ndP:ps.Nodup:=by rw[<-S.pre];exact S.nd.sublist (List.take_sublist _ _)
  refine⟨u,rv,?_⟩
  rcases S.par y (List.mem_of_getElem? hp)with k | k
  ·exact .inl ⟨k,U7 ndP hp hu k⟩
  ·obtain⟨c,e⟩:=U9 (n:=s.heap.objs.size+1) k
   refine .inr ⟨.inl k,c,e,?_⟩
   have q:=x.cell y c e
   rw[U8 ndP hp hu (by show scope.names.lookup y≠_;rw[k];decide)]at q
   exact q
 ·exact e0.hok.fresh (Nat.le_of_lt (x.above y c (PySem.mem_of_lookup h)))
 ·unfold A5
  show _=N.length
  rw[List.length_append,List.length_map,List.length_replicate]
  omega
theorem VA{CX:D3}{P:Program}{w:World}{K:W.Frag}{mg:Str->Option Value}{base:Heap}{k:Nat}{f:Addr}{name qual:Str}{params:Arguments}{body:List Stmt}{scope:Scope}{dV kV doc pm cdv ct oc:Value}{an od:Option Addr}
  {osl:Array (Option Value)} {N ps:List Str} {sp:Sp} (lk:K.lookup f=some ⟨oc,od,.func (W.fnOf name qual params body scope dV kV doc pm an cdv ct),osl⟩) (hcd:W.codeIn K cdv qual=true) (S:FnScope N ps scope)
  (len:∀ vs H Q E,sp vs H Q E->vs.length=ps.length)
  (hbody:∀ (A:Around) (outer:List Env) (s:Shared) (H:Hp) (vs:List V) (Q:VK) (E:XK),Room k (A.deeper (envOfC qual scope s.heap.objs.size f cdv))->sp vs H Q E →
   ∃ t,PSs (FB CX P w K mg base N qual scope f cdv A outer s H E) body t/\t { nx:=λ_ H'=>Q .non H',rt:=Q } (A5 N vs) H) :
  FnOk P w K mg base CX (k+1) f (W.fnOf name qual params body scope dV kV doc pm an cdv ct) ps sp:=by
 refine⟨len,λA outer s H args us vs Q E hr e0 hb r hsp=> ?_⟩
 have hl:=len _ _ _ _ hsp
 have KX:K.In s.heap:=e0.mod.kin.keeps λb o e=>(e0.bs b o e).1
 have lim:s.heap.NoLimit:=e0.mod.nolimit.keeps λb o e=>(e0.bs b o e).1
 have hkind:∀ y∈ps.zip us,scope.names.lookup y.1=some .local\/(scope.names.lookup y.1=some .cell/\((cellsFrom (s.heap.objs.size+1) scope.names []).lookup y.1).isSome=true):=λ⟨n,v⟩ hy=>by
  rcases S.par n (List.of_mem_zip hy).1 with q | q
  ·exact .inl q
  ·exact .inr ⟨q,W.cellsFrom_some _ _ _ (.inl q)⟩
 refine codeAny_call_function hr.depth (KX _ _ lk) rfl S.co S.gen rfl (W.codeRec_of KX hcd) (hb _ _ _ _ ?_)
 refine wpAny_newFunctionEnv_cells S.kind hkind λenv he s1 x=> ?_
 subst he
 refine⟨lim.keeps x.toInCall.keep,codeAny_func ?_⟩
 obtain⟨t,ht,hq⟩:=hbody A outer s H vs Q E (hr.deeper _) hsp
 have I:Inv (FB CX P w K mg base N qual scope f cdv A outer s H E) [] (A5 N vs) H s1:=iZ S hr.hd e0 hl r x
 refine wpAny_mono (ht [] s1 (A5 N vs) H _ I hq) (λfl s' hs=> ?_) λe s' hs=>hs
 have fin:∀ {σ':St} {H':Hp} {v:V} {u:Value},Inv (FB CX P w K mg base N qual scope f cdv A outer s H E) [] σ' H' s'->RelV v u->Q v H'->CE outer P w H s Q u s' :=
  λ{σ' H' v u} J rv q=>⟨v,H',J.os,J.bare,J.base,J.hok,rv,q⟩
 cases fl with
 | ret u =>
  obtain⟨v,σ',H',J,rv,q⟩:=hs
  exact fin J rv q
 | next =>
  obtain⟨σ',H',J,q⟩:=hs
  exact fin (v:=V.non) (u:=Value.none) J rfl q
 | brk =>
  obtain⟨_,_,_,q⟩:=hs
  exact False.elim q
 | cont =>
  obtain⟨_,_,_,q⟩:=hs
  exact False.elim q
end L2
namespace L2
section
variable{X:Cx}{x:Str}{p pos:Pos}{e:Expr}{es:List Expr}{t:TA}{id T:String}{r:List V->Hp->VK->Prop}
def BK(r:List V->Hp->VK->Prop)(t:TA):TE:=λσ H Q=>t σ H λvs H1=>r vs H1 Q
theorem CI(hc:CallR X (.builtin id) r)(hg:Gl X x)(hm:X.mg x=none)(hv:bootBuiltins x=some (.builtin id))(ha:PA X (e::es) t)(hn:x≠"__name__":=by decide)(hdb:(x ==("__debug__":Str))=false:=by decide)
  (he:starEach (e::es) X.env=(false,eval e X.env)::starEach es X.env:=by rfl) (hpl:(backTo pos (starEach es X.env)).any (·.1)=false:=by rfl):PE X (.Call (.Name x p) (e::es) [] pos) (BK r t):=by
 intro pins s σ H Q I h
 refine wpAny_Call_Name_kw (KS I hg hm hv ?_ hn hdb)
 exact PyProof.Rows.callWith_builtin1 (AM (ha pos pins s σ H _ I h) λus s1 ⟨vs,H1,I1,r1,q1⟩=>hc pins s1 σ H1 vs us Q I1 r1 q1) he hpl
theorem ER(hc:CallR X (.type T) r)(hg:Gl X x)(hm:X.mg x=none)(hv:bootBuiltins x=some (.type T))(ha:PA X (e::es) t)(hn:x≠"__name__":=by decide)(hdb:(x ==("__debug__":Str))=false:=by decide)
  (he:starEach (e::es) X.env=(false,eval e X.env)::starEach es X.env:=by rfl) (hpl:(backTo pos (starEach es X.env)).any (·.1)=false:=by rfl):PE X (.Call (.Name x p) (e::es) [] pos) (BK r t):=by
 intro pins s σ H Q I h
 refine wpAny_Call_Name_kw (KS I hg hm hv ?_ hn hdb)
 exact PyProof.Rows.callWith_type1 (AM (ha pos pins s σ H _ I h) λus s1 ⟨vs,H1,I1,r1,q1⟩=>hc pins s1 σ H1 vs us Q I1 r1 q1) he hpl
end
end L2
namespace HT
open PySem PyProof.Rows
section
open PySem.SeqAt
open PySem.AutoSeq1 (wpAny_loadPart')
open PySem.MeetsSeq PySem.MeetsSeq2 PySem.MeetsSeq3
end
section
variable{prog:Program}{w:World}{A:Around}{E:Value->Shared->Prop}{s:Shared}
theorem cat_tup{t b:Addr}{vs ws:List Value}{Q:Value->Shared->Prop}(ht:IsTup s.heap t vs.toArray)(hb:IsTup s.heap b ws.toArray)(hv:vs≠[])
  (h1:ws=[]->Q (.ref t) s) (h2:ws≠[]->Q (.ref s.heap.objs.size) { s with heap:=s.heap.push { cls:=.type "tuple",data:=.seq (vs++ws).toArray } })
  (hsz:vs.length+ws.length<=sizeLine):wpAny (model prog w) A (binaryOp .Add (.ref t) (.ref b)) Q E s:=by
 obtain⟨⟨cls,dd,data,sl⟩,ho,hc,n,hd⟩:=id ht
 obtain⟨⟨cls2,dd2,data2,sl2⟩,ho2,hc2,n2,hd2⟩:=id hb
 simp only at hc hd hc2 hd2
 subst hc hd hc2 hd2
 have e:vs.toArray++ws.toArray=(vs++ws).toArray:=by simp
 by_cases hw:ws=[]
 ·exact concat_meets ⟨_,ho,rfl⟩ ⟨_,ho2,rfl⟩ noFill_tuple_add seq_tuple_add PySem.F.slot_tuple_add PySem.F.entry_tuple_add (PySem.F.args_tuple_add_2 _ _)
   (tuple_addW1 t b vs.toArray ws.toArray n n2 dd dd2 sl sl2 (by simpa using hv) (by simp[hw])) ⟨ho,ho2,h1 hw⟩
 ·refine concat_meets ⟨_,ho,rfl⟩ ⟨_,ho2,rfl⟩ noFill_tuple_add seq_tuple_add PySem.F.slot_tuple_add PySem.F.entry_tuple_add (PySem.F.args_tuple_add_2 _ _)
   (tuple_addW2 t b vs.toArray ws.toArray n n2 dd dd2 sl sl2 (by simpa using hv) (by simpa using hw) (by rw[List.size_toArray,List.size_toArray];exact hsz)) ⟨ho,ho2,?_⟩
  rw[e]
  exact h2 hw
def sIx(n d:Nat):Option Int->Nat
 | none=>d
 | some v=>if v<0 then(v+(n:Int)).toNat else min v.toNat n
theorem i4(n d:Nat)(hd:d<=n)(o:Option Int):sIx n d o<=n:=by
 cases o with
 | none=>exact hd
 | some v =>
  show(if v<0 then(v+(n:Int)).toNat else min v.toNat n)<=n
  by_cases hv:v<0
  ·rw[if_pos hv];omega
  ·rw[if_neg hv];exact Nat.min_le_right _ _
theorem VB(v:Int)(n d:Nat):(if v<0 then max (v+(n:Int)) 0 else min v (n:Int))=((sIx n d (some v):Nat):Int):=by
 show(if v<0 then max (v+(n:Int)) 0 else min v (n:Int))=(((if v<0 then(v+(n:Int)).toNat else min v.toNat n):Nat):Int)
 by_cases hv:v<0
 ·simp only[if_pos hv];omega
 ·simp only[if_neg hv];omega
theorem i5(lo hi:Option Int)(n:Nat):Builtin.Slice.sliceAdjust lo hi 1 (n:Int)=(((sIx n 0 lo:Nat):Int),((sIx n n hi:Nat):Int)):=by
 have h1:¬ ((1:Int)<0):=by omega
 unfold Builtin.Slice.sliceAdjust
 simp only[h1,if_false]
 refine Prod.ext ?_ ?_
 ·cases lo with
  | none=>rfl
  | some v=>exact VB v n 0
 ·cases hi with
  | none=>rfl
  | some v=>exact VB v n n
theorem i6(i j:Nat):Builtin.Slice.slicePlaces (i:Int) (j:Int) 1=j - i:=by
 unfold Builtin.Slice.slicePlaces
 have h1:(1:Int) > 0:=by omega
 simp only[h1,if_true,Int.ediv_one]
 split<;>omega
theorem VC{v:Value}{o:Option Int}{Q:Option Int->Shared->Prop}(p:IsPart v o)(h:Q o s):wpAny (model prog w) A (Builtin.Slice.slicePartIndex v) Q E s:=by
 cases p with
 | none=>exact slicePart_none h
 | int i t=>exact slicePart_int h
theorem i7{sl:Addr}{vl vu:Value}{lo hi:Option Int}{n:Nat}{Q:Int × Int × Nat->Shared->Prop}(hs:s.heap.IsSliceOf sl vl vu .none)(pl:IsPart vl lo)(pu:IsPart vu hi)
  (h:Q (((sIx n 0 lo:Nat):Int),1,sIx n n hi - sIx n 0 lo) s):wpAny (model prog w) A (Builtin.Slice.sliceApplied (.ref sl) (pure (n:Int))) Q E s:=by
 obtain⟨os,hos,hcs,hds⟩:=id hs
 unfold Builtin.Slice.sliceApplied Builtin.Slice.sliceFields
 refine wpAny_bind (wpAny_bind (wpAny_field hos hds (x:=vl) rfl (wpAny_bind (wpAny_field hos hds (x:=vu) rfl (wpAny_bind (wpAny_field hos hds (x:=.none) rfl (wpAny_pure ?_)))))))
 refine wpAny_bind (slicePart_none ?_)
 show wpAny _ _ (if((1:Int) == 0)=true then _ else _) _ _ s
 rw[if_neg (by decide)]
 refine wpAny_bind (VC pl (wpAny_bind (VC pu (wpAny_bind (wpAny_pure ?_)))))
 show wpAny _ _ (match Builtin.Slice.sliceAdjust lo hi 1 (n:Int)with | (lo,hi)=>pure (lo,(1:Int),Builtin.Slice.slicePlaces lo hi 1)) _ _ s
 rw[i5 lo hi n]
 show wpAny _ _ (pure (((sIx n 0 lo:Nat):Int),(1:Int),Builtin.Slice.slicePlaces ((sIx n 0 lo:Nat):Int) ((sIx n n hi:Nat):Int) 1)) _ _ s
 rw[i6]
 exact wpAny_pure h
theorem i8(xs:Array Value)(i k:Nat):((List.range k).filterMap λ(m:Nat)=>xs[((i:Int)+(m:Int) * 1).toNat]?).toArray=((xs.toList.drop i).take k).toArray:=by
 have e:(λ(m:Nat)=>xs[((i:Int)+(m:Int) * 1).toNat]?)=λm=>xs[i+m]? :=by
  funext m
  have:((i:Int)+(m:Int) * 1).toNat=i+m:=by omega
  rw[this]
 rw[e]
 have:=pick_run xs i k
 rw[List.filterMap_map]at this
 have e2:((λx=>xs[x]?) ∘ λx=>i+x)=λm=>xs[i+m]? :=rfl
 rw[e2]at this
 rw[this]
theorem getItem_tuple_cut{t sl:Addr}{items:Array Value}{vl vu:Value}{lo hi:Option Int}{Q:Value->Shared->Prop}(ht:IsTup s.heap t items)(hs:s.heap.IsSliceOf sl vl vu .none)(pl:IsPart vl lo)(pu:IsPart vu hi)
  (hw:¬ (sIx items.size 0 lo=0/\sIx items.size items.size hi=items.size))
  (h:Q (.ref s.heap.objs.size) { s with heap:=s.heap.push { cls:=.type "tuple",data:=.seq ((items.toList.drop (sIx items.size 0 lo)).take (sIx items.size items.size hi - sIx items.size 0 lo)).toArray } })
  (hsz:items.size<=sizeLine):wpAny (model prog w) A (getItem (.ref t) (.ref sl)) Q E s:=by
 have htake:sizeOk (.seq ((items.toList.drop (sIx items.size 0 lo)).take (sIx items.size items.size hi - sIx items.size 0 lo)).toArray):=by
  show((items.toList.drop (sIx items.size 0 lo)).take (sIx items.size items.size hi - sIx items.size 0 lo)).toArray.size<=sizeLine
  rw[List.size_toArray,List.length_take,List.length_drop,Array.length_toList]
  omega
 have hj:sIx items.size items.size hi<=items.size:=i4 _ _ (Nat.le_refl _) hi
 obtain⟨os,hos,hcs,hds⟩:=id hs
 have hTs:s.TypeIs (.ref sl) "slice":=⟨os,hos,hcs⟩
 unfold getItem
 try with_reducible refine wpAny_holding ?_
 first | refine wpAny_bind (wpAny_pure ?_) | skip
 refine wpAny_bind (wpAny_sequenceKey ht.typeIs (by decide) ?_)
 refine wpAny_bind (wpAny_callSpecial?_slot (name:=Str.ofString "__getitem__") ht.typeIs PyProof.Rows.slot_tuple_getitem
  (wpAny_call_entry PyProof.Rows.slot_tuple_getitem ht.typeIs entry_tuple_getitem ?_ (args_tuple_getitem _ _)))
 show wpAny _ _ (Builtin.Tuple.tupleItemsOf (.ref t) >>= _) _ _ s
 refine wpAny_bind (tupleItemsOf_ ht ?_)
 refine wpAny_bind (wpAny_typeOf hTs ?_)
 rw[if_pos (by decide)]
 refine wpAny_bind (i7 hs pl pu ?_)
 have hno:¬ ((((sIx items.size 0 lo:Nat):Int) == 0 && (1:Int) == 1 && (sIx items.size items.size hi - sIx items.size 0 lo) == items.size)=true):=by
  intro q
  rw[Bool.and_eq_true,Bool.and_eq_true]at q
  have q1:((sIx items.size 0 lo:Nat):Int)=0:=eq_of_beq q.1.1
  have q2:sIx items.size items.size hi - sIx items.size 0 lo=items.size:=eq_of_beq q.2
  exact hw ⟨by omega,by omega⟩
 show wpAny _ _ (if(((sIx items.size 0 lo:Nat):Int) == 0 && (1:Int) == 1 && (sIx items.size items.size hi - sIx items.size 0 lo) == items.size)=true then _ else _) _ _ s
 rw[if_neg hno,i8]
 first
  | exact wpAny_bind (m:=Builtin.Tuple.tupleExact _) (wpAny_newObj_type (wpAny_pure ⟨_,rfl,wpAny_pure h⟩) htake)
  | exact wpAny_bind (m:=Builtin.Tuple.tupleExact _) (wpAny_newObj_type (wpAny_bind (wpAny_pure (wpAny_pure ⟨_,rfl,wpAny_pure h⟩))) htake)
  | exact wpAny_bind (wpAny_bind (m:=Builtin.Tuple.tupleExact _) (wpAny_newObj_type (wpAny_pure (wpAny_pure ⟨_,rfl,wpAny_pure h⟩)) htake))
  | exact wpAny_bind (wpAny_bind (m:=Builtin.Tuple.tupleExact _) (wpAny_newObj_type (wpAny_pure ⟨_,rfl,wpAny_pure h⟩) htake))
end
end HT
namespace L2
abbrev TO:=St->Hp->(Option Int->Hp->Prop)->Prop
def PO(X:Cx)(e:Option Expr)(t:TO):Prop :=
 ∀ (pins:List (Addr × Obj)) (s:Shared) (σ:St) (H:Hp) (Q:Option Int->Hp->Prop),Inv X pins σ H s->t σ H Q →
  wpAny (model X.prog X.w) X.A (evalPart e X.env) (λu s'=>∃ o H',Inv X pins σ H' s'/\IsPart u o/\Q o H') X.xe s
def i9:TO:=λ_ H Q=>Q none H
def MY(t:TE):TO:=λσ H Q=>t σ H λx H1=>∃ i,x=.int i/\Q (some i) H1
section
variable{X:Cx}{e:Expr}{te:TE}{lo hi:Option Expr}{tl th:TO}{pos p2:Pos}
theorem VD(h:PE X e te):PO X (some e) (MY te):=by
 intro pins s σ H Q I hw
 rw[evalPart_some]
 refine AM (h pins s σ H _ I hw) λu s1 ⟨x,H1,I1,r1,q1⟩=> ?_
 obtain⟨i,rfl,q⟩:=q1
 obtain⟨t,rfl⟩:=r1
 exact⟨some i,H1,I1,.int i t,q⟩
def SlR(X:Cx)(r:V->Option Int->Option Int->Hp->VK->Prop):Prop :=
 ∀ (pins:List (Addr × Obj)) (s:Shared) (σ:St) (H:Hp) (x:V) (v vl vu:Value) (lo hi:Option Int) (sl:Addr) (Q:VK),Inv X pins σ H s->RelV x v->s.heap.IsSliceOf sl vl vu .none->IsPart vl lo->IsPart vu hi->r x lo hi H Q →
  ∃ T id,typeLookup (.type T) "__getitem__"=pure (some (.builtin id))/\s.TypeIs v T/\wpAny (model X.prog X.w) X.A (getItem v (.ref sl)) (EP X pins σ Q) X.xe s
theorem SlR.or{r r':V->Option Int->Option Int->Hp->VK->Prop}(h:SlR X r)(h':SlR X r'):SlR X (λx lo hi H Q=>r x lo hi H Q\/r' x lo hi H Q):=by
 intro pins s σ H x v vl vu lo hi sl Q I rx hs pl pu q
 rcases q with q | q
 ·exact h pins s σ H x v vl vu lo hi sl Q I rx hs pl pu q
 ·exact h' pins s σ H x v vl vu lo hi sl Q I rx hs pl pu q
def OT(r:V->Option Int->Option Int->Hp->VK->Prop)(te:TE)(tl th:TO):TE:=λσ H Q=>te σ H λx H1=>tl σ H1 λl H2=>th σ H2 λu H3=>r x l u H3 Q
theorem jA{r:V->Option Int->Option Int->Hp->VK->Prop}(hr:SlR X r)(he:PE X e te)(hl:PO X lo tl)(hu:PO X hi th):PE X (.Subscript e (.Slice lo hi none p2) pos) (OT r te tl th):=by
 intro pins s σ H Q I h
 refine Subscript_ (AM (he pins s σ H _ I h) λv s1 ⟨x,H1,I1,r1,q1⟩=> ?_)
 refine wpAny_Slice (AM (hl pins s1 σ H1 _ I1 q1) λvl s2 ⟨l,H2,I2,pl,q2⟩=>AM (hu pins s2 σ H2 _ I2 q2) λvu s3 ⟨u,H3,I3,pu,q3⟩=> ?_)
 rw[evalPart_none]
 refine wpAny_pure ?_
 have I4:Inv X pins σ H3 { s3 with heap:=s3.heap.push { cls:=.type "slice",data:=.fields #[vl,vu,.none] } }:=I3.kept (t':=s3.toks) λb ob q=>Heap.get?_push_of_some _ q
 obtain⟨T,id,hT,ht,hg⟩:=hr pins { s3 with heap:=s3.heap.push { cls:=.type "slice",data:=.fields #[vl,vu,.none] } } σ H3 x v vl vu l u s3.heap.objs.size Q I4 r1 (Heap.IsSliceOf.new ..) pl pu q3
 show wpAny (model X.prog X.w) X.A (subscriptTail e (.Slice lo hi none p2) v (.ref s3.heap.objs.size)) (EP X pins σ Q) X.xe { s3 with heap:=s3.heap.push { cls:=.type "slice",data:=.fields #[vl,vu,.none] } }
 exact tail_any (ops:=[.ref s3.heap.objs.size,v]) ht hT hg (by with_unfolding_all rfl)
def FQ(xs:List V)(lo hi:Option Int):List V:=(xs.drop (HT.sIx xs.length 0 lo)).take (HT.sIx xs.length xs.length hi - HT.sIx xs.length 0 lo)
theorem VE(xs:List V)(lo hi:Option Int):(FQ xs lo hi).length<=xs.length:=by
 unfold FQ
 rw[List.length_take,List.length_drop]
 omega
def VF(K:W.Frag):V->Option Int->Option Int->Hp->VK->Prop:=λx lo hi H Q=>∃ a xs,x=.ref a/\SqT K H a xs ∧
 ¬ (HT.sIx xs.length 0 lo=0/\HT.sIx xs.length xs.length hi=xs.length)/\∀ p,H p=none->Q (.ref p) (upd H p (.tup (FQ xs lo hi)))
theorem jB:SlR X (VF X.K):=by
 intro pins s σ H x v vl vu lo hi sl Q I rx hs pl pu h
 obtain⟨a,xs,rfl,hx,hw,q⟩:=h
 cases rx
 obtain⟨its,r,ht,hz⟩:=I.tuple hx
 have hlen:its.toArray.size=xs.length:=by rw[List.size_toArray];exact r.length.symm
 refine⟨"tuple",_,PyProof.Rows.slot_tuple_getitem.lookup,ht.typeIs,?_⟩
 refine HT.getItem_tuple_cut ht hs pl pu (by rw[hlen];exact hw) ?_ (by rw[hlen];exact hz)
 rw[hlen]
 refine⟨.ref s.heap.objs.size,_,I.laid (t':=s.toks) (o:=.tup (FQ xs lo hi)) (λb ob q=>Heap.get?_push_of_some _ q) (Nat.le_refl _) ?_,rfl,q _ (I.hok.fresh (Nat.le_refl _))⟩
 exact⟨Nat.le_trans (VE xs lo hi) hz,_,(r.drop (HT.sIx xs.length 0 lo)).take (HT.sIx xs.length xs.length hi - HT.sIx xs.length 0 lo),IsTup.new _ _⟩
def OU(K:W.Frag):R2:=λx y H Q=>∃ a b xs ys,x=.ref a/\y=.ref b/\SqT K H a xs/\SqT K H b ys/\xs≠[]/\xs.length+ys.length<=sizeLine ∧
 (ys=[]->Q (.ref a) H)/\(ys≠[]->∀ p,H p=none->Q (.ref p) (upd H p (.tup (xs++ys))))
theorem Vals.nil_iff{xs:List V}{us:List Value}(r:Vals xs us):us=[]↔xs=[]:=by
 cases r with
 | nil=>simp
 | cons _ _=>simp
theorem jC:OpR X (binaryOp .Add) (OU X.K):=by
 intro pins s σ H x y v u Q I rx ry h
 obtain⟨a,b,xs,ys,rfl,rfl,ha,hb,hx,hz,q1,q2⟩:=h
 cases rx
 cases ry
 obtain⟨its,r1,p1,_⟩:=I.tuple ha
 obtain⟨its2,r2,p2,_⟩:=I.tuple hb
 refine HT.cat_tup p1 p2 (λz=>hx (r1.nil_iff.mp z)) (λz=>⟨.ref a,H,I,rfl,q1 (r2.nil_iff.mp z)⟩) (λz=> ?_) (by rw[<-r1.length,<-r2.length];exact hz)
 refine⟨.ref s.heap.objs.size,_,I.laid (t':=s.toks) (o:=.tup (xs++ys)) (λb ob q=>Heap.get?_push_of_some _ q) (Nat.le_refl _) ?_,rfl,q2 (λw=>z (r2.nil_iff.mpr w)) _ (I.hok.fresh (Nat.le_refl _))⟩
 exact⟨by rw[List.length_append];exact hz,_,r1.append r2,IsTup.new _ _⟩
end
end L2
namespace L2
def ES(n:Nat)(i:Int):Option Nat:=if 0<=i then(if i<n then some i.toNat else none)else if -(n:Int)<=i then some (i+n).toNat else none
def G6{α :Type}(xs:List α)(i:Int):Option α :=(ES xs.length i).bind λj=>xs[j]?
theorem VG{n:Nat}{i:Int}{j:Nat}(h:ES n i=some j):seqIndex? i n=some j/\j<n/\ -(n:Int)<=i/\i<n:=by
 unfold ES at h
 by_cases h0:0<=i
 ·rw[if_pos h0]at h
  by_cases h1:i<n
  ·rw[if_pos h1]at h
   have e:i.toNat=j:=Option.some.inj h
   exact⟨by rw[seqIndex_of h0 h1,e],by omega,by omega,h1⟩
  ·rw[if_neg h1]at h;cases h
 ·rw[if_neg h0]at h
  by_cases h1: -(n:Int)<=i
  ·rw[if_pos h1]at h
   have e:(i+n).toNat=j:=Option.some.inj h
   exact⟨by rw[seqIndex_neg (by omega) h1,e],by omega,h1,by omega⟩
  ·rw[if_neg h1]at h;cases h
theorem OV{α :Type}{xs:List α}{i:Int}{v: α}(h:G6 xs i=some v):∃ j,seqIndex? i xs.length=some j/\xs[j]? =some v/\j<xs.length/\ -(xs.length:Int)<=i/\i<xs.length:=by
 unfold G6 at h
 cases e:ES xs.length i with
 | none=>rw[e]at h;cases h
 | some j =>
  rw[e]at h
  obtain⟨h1,h2,h3,h4⟩:=VG e
  exact⟨j,h1,h,h2,h3,h4⟩
theorem VH{α :Type}{xs:List α}{j:Nat}{v: α}(h:xs[j]? =some v):G6 xs (j:Int)=some v:=by
 have hj:j<xs.length:=(List.getElem?_eq_some_iff.mp h).1
 have e:ES xs.length (j:Int)=some j:=by
  unfold ES
  rw[if_pos (by omega),if_pos (by omega)];simp
 unfold G6;rw[e];exact h
def jD(b:Expr):Prop:=∀ o i,subscripted b false o i=operate [o,i] (getItem o i)
def IxR(X:Cx)(r:R2):Prop :=
 ∀ (value slice:Expr) (pins:List (Addr × Obj)) (s:Shared) (σ:St) (H:Hp) (x y:V) (v u:Value) (Q:VK),Inv X pins σ H s->RelV x v->RelV y u->r x y H Q →
  subscripted slice false v u=operate [v,u] (getItem v u)->wpAny (model X.prog X.w) X.A (subscriptTail value slice v u) (EP X pins σ Q) X.xe s
def MtR(X:Cx)(id:String)(r:V->List V->Hp->VK->Prop):Prop :=
 ∀ (pins:List (Addr × Obj)) (s:Shared) (σ:St) (H:Hp) (x:V) (xs:List V) (v:Value) (us:List Value) (Q:VK),Inv X pins σ H s->RelV x v->Vals xs us->r x xs H Q →
  wpAny (model X.prog X.w) X.A (call (.builtin id) (v::us)) (EP X pins σ Q) X.xe s
section
variable{X:Cx}{a b:Expr}{ta tb:TE}{pos:Pos}
theorem IxR.or{r r':R2}(h:IxR X r)(h':IxR X r'):IxR X (λx y H Q=>r x y H Q\/r' x y H Q):=by
 intro value slice pins s σ H x y v u Q I rx ry q hs
 rcases q with q | q
 ·exact h value slice pins s σ H x y v u Q I rx ry q hs
 ·exact h' value slice pins s σ H x y v u Q I rx ry q hs
theorem MtR.or{id:String}{r r':V->List V->Hp->VK->Prop}(h:MtR X id r)(h':MtR X id r'):MtR X id (λx xs H Q=>r x xs H Q\/r' x xs H Q):=by
 intro pins s σ H x xs v us Q I rx rs q
 rcases q with q | q
 ·exact h pins s σ H x xs v us Q I rx rs q
 ·exact h' pins s σ H x xs v us Q I rx rs q
theorem AU{r:R2}(hr:IxR X r)(ha:PE X a ta)(hb:PE X b tb)(hs:jD b):PE X (.Subscript a b pos) (AH r ta tb):=by
 intro pins s σ H Q I h
 exact Subscript_ (ON ha hb I h λv u s2 x y H2 I2 rx ry q=>hr a b pins s2 σ H2 x y v u Q I2 rx ry q (hs _ _))
def VI(K:W.Frag):R2:=λx y H Q=>∃ p xs i v,x=.ref p/\y=.int i/\SqL K H p xs/\G6 xs i=some v/\Q v H
def VJ(K:W.Frag):R2:=λx y H Q=>∃ p xs i v,x=.ref p/\y=.int i/\SqT K H p xs/\G6 xs i=some v/\Q v H
def VL:R2:=λx y H Q=>∃ z i c,x=.str z/\y=.int i/\z.length<=sizeLine/\G6 z.cps.toList i=some c/\Q (.str ⟨#[c]⟩) H
theorem jE:IxR X (VI X.K):=by
 intro value slice pins s σ H x y v u Q I rx ry h hs
 obtain⟨p,xs,i,z,rfl,rfl,hq,he,q⟩:=h
 cases rx
 obtain⟨t,rfl⟩:=ry
 obtain⟨its,r,pl,hz⟩:=I.list hq
 obtain⟨j,h1,h2,h3,h4,h5⟩:=OV he
 obtain⟨w,ew,rw'⟩:=r.get h2
 have hl:=r.length
 have hn:=IL
 have fin:EP X pins σ Q w s:=⟨z,H,I,rw',q⟩
 by_cases h0:0<=i
 ·have hj:i.toNat=j:=by
   rw[seqIndex_of h0 h5]at h1
   exact Option.some.inj h1
  exact item_listR pl.isList h0 (by omega) (by rw[hj];simpa using ew) fin hs
 ·have hj:(i+(its.toArray.size:Int)).toNat=j:=by
   rw[seqIndex_neg (by omega) h4]at h1
   rw[List.size_toArray,<-hl]
   exact Option.some.inj h1
  exact subscriptTail_builtinR (x:=w) pl.isList.typeIs slot_list_getitem.lookup
   (wpAny_getItem_list_neg (Q:=λr s'=>r=w/\EP X pins σ Q r s') pl.isList (by omega) (by rw[List.size_toArray]<;>omega) (by omega) (by rw[hj];simpa using ew) ⟨rfl,fin⟩) hs
theorem jF:IxR X (VJ X.K):=by
 intro value slice pins s σ H x y v u Q I rx ry h hs
 obtain⟨p,xs,i,z,rfl,rfl,hq,he,q⟩:=h
 cases rx
 obtain⟨t,rfl⟩:=ry
 obtain⟨its,r,pl,hz⟩:=I.tuple hq
 obtain⟨j,h1,h2,h3,h4,h5⟩:=OV he
 obtain⟨w,ew,rw'⟩:=r.get h2
 have hl:=r.length
 have hn:=IL
 have fin:EP X pins σ Q w s:=⟨z,H,I,rw',q⟩
 exact subscriptTail_builtinR (x:=w) pl.typeIs slot_tuple_getitem.lookup
  (getItem_tuple (j:=j) (Q:=λr s'=>r=w/\EP X pins σ Q r s') pl (by omega) (by omega) (by rw[List.size_toArray,<-hl];exact h1) (by simpa using ew) ⟨rfl,fin⟩) hs
theorem jG:IxR X VL:=by
 intro value slice pins s σ H x y v u Q I rx ry h hs
 obtain⟨z,i,c,rfl,rfl,hz,he,q⟩:=h
 obtain⟨t,rfl⟩:=rx
 obtain⟨t',rfl⟩:=ry
 obtain⟨j,h1,h2,h3,h4,h5⟩:=OV he
 have hl:z.cps.toList.length=z.length:=by simp[Str.length]
 rw[hl]at h1 h4 h5
 have hn:=IL
 exact tail_any (typeIs_str s z t) slot_str_getitem.lookup (getItem_str (c:=c) (by
  have e1:decide (i< -(2 ^ 63:Int))=false:=decide_eq_false (by omega)
  have e2:decide (i ≥ 2 ^ 63)=false:=decide_eq_false (by omega)
  rw[e1,e2,Bool.or_false]) (by rw[h1];simpa using h2) ⟨.str ⟨#[c]⟩,H,I.tok _,⟨_,rfl⟩,q⟩) hs
def VM(K:W.Frag):R2:=λx y H Q=>VI K x y H Q\/VJ K x y H Q\/VL x y H Q
theorem jH:IxR X (VM X.K):=jE.or (jF.or jG)
theorem jI(its:List Value)(n j:Nat)(u:Value):Obj.mapSeq (·.setIfInBounds j u) { cls:=.type "list",data:=.seq its.toArray n }={ cls:=.type "list",data:=.seq (its.set j u).toArray n }:=by
 simp[Obj.mapSeq]
theorem Inv.lst{pins:List (Addr × Obj)}{σ:St}{H:Hp}{s:Shared}{p:Addr}{xs:List V}(I:Inv X pins σ H s)(h:H p=some (.lst xs)) :
  ∃ (its:List Value) (n:Nat),Vals xs its/\s.heap.get? p=some { cls:=.type "list",data:=.seq its.toArray n }/\xs.length<=sizeLine:=by
 obtain⟨z,its,n,r,e⟩:=I.hok p _ h
 exact⟨its,n,r,e,z⟩
theorem Inv.lstUpd{pins:List (Addr × Obj)}{σ:St}{H:Hp}{s:Shared}{p:Addr}{xs ys:List V}{its its':List Value}{n n':Nat}{f:Obj->Obj}(I:Inv X pins σ H s)(h:H p=some (.lst xs))
  (ho:s.heap.get? p=some { cls:=.type "list",data:=.seq its.toArray n }) (hf:f { cls:=.type "list",data:=.seq its.toArray n }={ cls:=.type "list",data:=.seq its'.toArray n' }) (r:Vals ys its') (hz:ys.length<=sizeLine) (t:Nat) :
  Inv X pins σ (upd H p (.lst ys)) { s with heap:=s.heap.update p f,toks:=t }:=by
 have e:(s.heap.update p f).get? p=some { cls:=.type "list",data:=.seq its'.toArray n' }:=by
  rw[Heap.get?_update_self f ho (by rw[hf]<;>rfl),hf]
 refine I.write (x:=p) (e:=p) (by rw[h];trivial) (.inl rfl) (λb u hb q=>(Heap.get?_update_other _ _ (Ne.symm hb)).trans q) ⟨_,e⟩ ?_
 exact⟨hz,its',n',r,e⟩
def VN:V->V->V->Hp->(Hp->Prop)->Prop:=λo i v H Q=>∃ p xs k j,o=.ref p/\i=.int k/\H p=some (.lst xs)/\ES xs.length k=some j/\Q (upd H p (.lst (xs.set j v)))
theorem jJ:OJ X VN:=by
 intro pins s σ H o i v ov iv u Q I ro ri rv h
 obtain⟨p,xs,k,j,rfl,rfl,hp,hj,q⟩:=h
 cases ro
 obtain⟨t,rfl⟩:=ri
 obtain⟨its,n,r,ho,hz⟩:=I.lst hp
 obtain⟨h1,h2,h3,h4⟩:=VG hj
 have hl:=r.length
 have hn:=IL
 have I':Inv X pins σ (upd H p (.lst (xs.set j v))) { s with heap:=s.heap.update p (Obj.mapSeq (·.setIfInBounds j u)) } :=
  I.lstUpd hp ho (jI its n j u) (r.set rv j) (by rw[List.length_set];exact hz) s.toks
 by_cases h0:0<=k
 ·have hk:k.toNat=j:=by
   rw[seqIndex_of h0 h4]at h1
   exact Option.some.inj h1
  exact W.ki_setAt ho h0 (by omega) (by rw[List.size_toArray,<-hl];exact h4) (by rw[hk];exact⟨_,I',q⟩)
 ·have hk:(k+(its.toArray.size:Int)).toNat=j:=by
   rw[seqIndex_neg (by omega) h3]at h1
   rw[List.size_toArray,<-hl]
   exact Option.some.inj h1
  exact W.ki_setBack ho (by omega) (by rw[List.size_toArray,<-hl];exact h3) (by omega) (by rw[hk];exact⟨_,I',q⟩)
theorem jK(lo hi:Option Int)(n:Nat):(sliceBounds lo hi none n).1=((HT.sIx n 0 lo:Nat):Int)/\(sliceBounds lo hi none n).2.1=((HT.sIx n n hi:Nat):Int)/\(sliceBounds lo hi none n).2.2=1:=by
 refine⟨?_,?_,rfl⟩
 ·cases lo with
  | none=>simp[sliceBounds,HT.sIx]
  | some i =>
   simp only[sliceBounds,HT.sIx,Option.getD_none,show(1:Int) > 0 by decide,if_true]
   by_cases h:i<0
   ·simp only[h,if_true]<;>omega
   ·simp only[h,if_false]<;>omega
 ·cases hi with
  | none=>simp[sliceBounds,HT.sIx]
  | some i =>
   simp only[sliceBounds,HT.sIx,Option.getD_none,show(1:Int) > 0 by decide,if_true]
   by_cases h:i<0
   ·simp only[h,if_true]<;>omega
   ·simp only[h,if_false]<;>omega
theorem jL(its:List Value)(lo hi:Option Int):slicePick its.toArray lo hi none=((its.drop (HT.sIx its.length 0 lo)).take (HT.sIx its.length its.length hi - HT.sIx its.length 0 lo)).toArray:=by
 obtain⟨h1,h2,h3⟩:=jK lo hi its.toArray.size
 unfold slicePick
 rw[h1,h2,h3]
 simp only[sliceRange_one,pick_run,List.size_toArray]<;>rfl
def VO(K:W.Frag):V->Option Int->Option Int->Hp->VK->Prop:=λx lo hi H Q=>∃ a xs,x=.ref a/\SqL K H a xs/\∀ p,H p=none->Q (.ref p) (upd H p (.lst (FQ xs lo hi)))
theorem jM:SlR X (VO X.K):=by
 intro pins s σ H x v vl vu lo hi sl Q I rx hs pl pu h
 obtain⟨a,xs,rfl,hx,q⟩:=h
 cases rx
 obtain⟨its,r,ht,hz⟩:=I.list hx
 have hlen:=r.length
 refine⟨"list",_,slot_list_getitem.lookup,ht.isList.typeIs,?_⟩
 refine wpAny_getItem_list_slice ht.isList hs pl pu .none (by simp) ?_ (by rw[List.size_toArray]<;>omega)
 rw[jL,<-hlen]
 refine⟨.ref s.heap.objs.size,_,I.laid (t':=s.toks) (o:=.lst (FQ xs lo hi)) (λb ob q=>Heap.get?_push_of_some _ q) (Nat.le_refl _) ?_,rfl,q _ (I.hok.fresh (Nat.le_refl _))⟩
 exact⟨Nat.le_trans (VE xs lo hi) hz,_,0,(r.drop (HT.sIx xs.length 0 lo)).take (HT.sIx xs.length xs.length hi - HT.sIx xs.length 0 lo),Heap.get?_push_size _ rfl⟩
def GN:V->Bool
 | .non=>true
 | .bl _=>true
 | .int _=>true
 | .str _=>true
 | _=>false
def FR:V->V->Bool
 | .non,.non=>true
 | .bl a,.bl b=>a == b
 | .bl a,.int b=>(if a then 1 else 0) == b
 | .int a,.bl b=>a ==(if b then 1 else 0)
 | .int a,.int b=>a == b
 | .str a,.str b=>a == b
 | _,_=>false
theorem jN{A:Around}{s:Shared}{y x:V}{u v:Value}(ry:RelV y u)(rx:RelV x v)(fy:GN y=true)(fx:GN x=true):SeqAt.EqAt A s u v (FR y x):=by
 cases y with
 | non =>
  cases ry
  cases x with
  | non=>cases rx;exact SeqAt.EqAt.same _
  | bl b=>cases rx;exact SeqAt.EqAt.none_bool b
  | int b=>obtain⟨t,rfl⟩:=rx;exact SeqAt.EqAt.none_int b t
  | str b=>obtain⟨t,rfl⟩:=rx;exact SeqAt.EqAt.none_str b t
  | _=>exact absurd (show false=true from fx) Bool.false_ne_true
 | bl a =>
  cases ry
  cases x with
  | non=>cases rx;exact SeqAt.EqAt.bool_none a
  | bl b=>cases rx;exact SeqAt.EqAt.bool_bool a b
  | int b=>obtain⟨t,rfl⟩:=rx;exact SeqAt.EqAt.bool_int a b t
  | str b=>obtain⟨t,rfl⟩:=rx;exact SeqAt.EqAt.bool_str a b t
  | _=>exact absurd (show false=true from fx) Bool.false_ne_true
 | int a =>
  obtain⟨t',rfl⟩:=ry
  cases x with
  | non=>cases rx;exact SeqAt.EqAt.int_none a t'
  | bl b=>cases rx;exact SeqAt.EqAt.int_bool a t' b
  | int b=>obtain⟨t,rfl⟩:=rx;exact SeqAt.EqAt.int_int a t' b t
  | str b=>obtain⟨t,rfl⟩:=rx;exact SeqAt.EqAt.int_str a t' b t
  | _=>exact absurd (show false=true from fx) Bool.false_ne_true
 | str a =>
  obtain⟨t',rfl⟩:=ry
  cases x with
  | non=>cases rx;exact SeqAt.EqAt.str_none a t'
  | bl b=>cases rx;exact SeqAt.EqAt.str_bool a t' b
  | int b=>obtain⟨t,rfl⟩:=rx;exact SeqAt.EqAt.str_int a t' b t
  | str b=>obtain⟨t,rfl⟩:=rx;exact SeqAt.EqAt.str_str a t' b t
  | _=>exact absurd (show false=true from fx) Bool.false_ne_true
 | _=>exact absurd (show false=true from fy) Bool.false_ne_true
def FS(x:V)(u:Value):Bool:=match u with
 | .none=>FR .non x
 | .bool b=>FR (.bl b) x
 | .int i _=>FR (.int i) x
 | .str z _=>FR (.str z) x
 | _=>false
theorem VP{x y:V}{u:Value}(r:RelV y u)(f:GN y=true):FS x u=FR y x:=by
 cases y with
 | non=>cases r;rfl
 | bl b=>cases r;rfl
 | int i=>obtain⟨t,rfl⟩:=r;rfl
 | str z=>obtain⟨t,rfl⟩:=r;rfl
 | _=>exact absurd (show false=true from f) Bool.false_ne_true
theorem OW{x:V}:∀ {xs:List V} {us:List Value},Vals xs us->xs.all GN=true->us.any (FS x)=xs.any λy=>FR y x
 | _,_,.nil,_=>rfl
 | y::xs,u::us,.cons r t,f=>by
  rw[List.all_cons,Bool.and_eq_true]at f
  rw[List.any_cons,List.any_cons,VP r f.1,OW t f.2]
theorem OX{A:Around}{s:Shared}{x:V}{v:Value}(rx:RelV x v)(fx:GN x=true):∀ {xs:List V} {us:List Value},Vals xs us->xs.all GN=true->∀ u∈us,SeqAt.EqAt A s u v (FS x u)
 | _,_,.nil,_=>λu hu=>by cases hu
 | y::xs,u::us,.cons r t,f=>λu' hu=>by
  rw[List.all_cons,Bool.and_eq_true]at f
  rcases List.mem_cons.mp hu with rfl | hu
  ·rw[VP r f.1];exact jN r rx f.1 fx
  ·exact OX rx fx t f.2 u' hu
def MZ(x:V)(xs:List V):Bool:=xs.any λy=>FR y x
def VQ(K:W.Frag)(neg:Bool):R2:=λx y H Q=>∃ p xs,y=.ref p/\(SqL K H p xs\/SqT K H p xs)/\GN x=true/\xs.all GN=true/\Q (.bl (if neg then !MZ x xs else MZ x xs)) H
theorem jO:OpR X (compareOp .NotIn) (VQ X.K true):=by
 intro pins s σ H x y v u Q I rx ry h
 obtain⟨p,xs,rfl,hq,fx,fs,q⟩:=h
 cases ry
 rcases hq with hq | hq
 ·obtain⟨its,r,pl,hz⟩:=I.list hq
  refine SeqAt.notIn_listAt (FS x) pl.isList (λw hw=>OX rx fx r fs w (by simpa using hw)) ⟨.bl _,H,I,rfl,?_⟩
  rw[show its.toArray.any (FS x)=its.any (FS x) by simp,OW r fs]
  exact q
 ·obtain⟨its,r,pl,hz⟩:=I.tuple hq
  refine SeqAt.notIn_tupleAt (FS x) pl (λw hw=>OX rx fx r fs w (by simpa using hw)) ⟨.bl _,H,I,rfl,?_⟩
  rw[show its.toArray.any (FS x)=its.any (FS x) by simp,OW r fs]
  exact q
theorem CallR.or{f:Value}{r r':List V->Hp->VK->Prop}(h:CallR X f r)(h':CallR X f r'):CallR X f (λxs H Q=>r xs H Q\/r' xs H Q):=by
 intro pins s σ H xs us Q I rs q
 rcases q with q | q
 ·exact h pins s σ H xs us Q I rs q
 ·exact h' pins s σ H xs us Q I rs q
theorem jP:CallR X (.type "list") (λxs H Q=>∃ p ys,xs=[.ref p]/\(SqL X.K H p ys\/SqT X.K H p ys)/\∀ l,H l=none->Q (.ref l) (upd H l (.lst ys))):=by
 intro pins s σ H xs us Q I r h
 obtain⟨p,ys,rfl,hq,q⟩:=h
 obtain⟨u,rfl,rx⟩:=FO r
 cases rx
 have fin:∀ (its:List Value),Vals ys its->ys.length<=sizeLine->∀ (h':Heap) (c':Nat),(∀ b o',s.heap.get? b=some o'->h'.get? b=some o') →
   h'.get? s.heap.objs.size=some { cls:=.type "list",dict:=none,data:=.seq its.toArray c',slots:= #[] }->EP X pins σ Q (.ref s.heap.objs.size) { s with heap:=h' }:=λits r' hz h' c' kp e =>
  ⟨.ref s.heap.objs.size,_,I.laid (t':=s.toks) kp (Nat.le_refl _) (show ObjOk X.prog X.w _ h' _ (.lst ys)from⟨hz,its,c',r',e⟩),rfl,q _ (I.hok.fresh (Nat.le_refl _))⟩
 rcases hq with hq | hq
 ·obtain⟨its,r',pl,hz⟩:=I.list hq
  have hlen:=r'.length
  obtain⟨o,ho,hc,n,hd⟩:=pl.isList
  exact call_list_seq p (.inl rfl) ho hc hd (λh' c' kp e=>fin its r' hz h' c' kp e) (by simp only[List.size_toArray]<;>omega)
 ·obtain⟨its,r',pl,hz⟩:=I.tuple hq
  have hlen:=r'.length
  obtain⟨o,ho,hc,n,hd⟩:=pl
  exact call_list_seq p (.inr rfl) ho hc hd (λh' c' kp e=>fin its r' hz h' c' kp e) (by simp only[List.size_toArray]<;>omega)
theorem jQ:CallR X (.type "tuple") (λxs H Q=>∃ p ys,xs=[.ref p]/\((SqL X.K H p ys/\∀ l,H l=none->Q (.ref l) (upd H l (.tup ys)))\/(SqT X.K H p ys/\Q (.ref p) H))):=by
 intro pins s σ H xs us Q I r h
 obtain⟨p,ys,rfl,h⟩:=h
 obtain⟨u,rfl,rx⟩:=FO r
 cases rx
 rcases h with⟨hq,q⟩ | ⟨hq,q⟩
 ·obtain⟨its,r',pl,hz⟩:=I.list hq
  have hlen:=r'.length
  refine call_tuple_list pl.isList (λh' kp=> ?_) (by simp only[List.size_toArray]<;>omega)
  have I1:Inv X pins σ H { s with heap:=h' }:=I.kept (t':=s.toks) kp
  have I2:Inv X pins σ (upd H h'.objs.size (.tup ys)) { s with heap:=h'.push { cls:=.type "tuple",data:=.seq its.toArray } } :=
   I1.laid (t':=s.toks) (λb o e=>Heap.get?_push_of_some _ e) (Nat.le_refl _) (show ObjOk X.prog X.w _ _ _ (.tup ys)from⟨hz,its,r',IsTup.new _ _⟩)
  exact⟨.ref h'.objs.size,_,I2,rfl,q _ (I1.hok.fresh (Nat.le_refl _))⟩
 ·obtain⟨its,r',pl,hz⟩:=I.tuple hq
  exact call_tuple_same pl ⟨.ref p,H,I,rfl,q⟩
def K1(K:W.Frag)(T:String)(x:V)(H:Hp):Prop:=match x with
 | .str _=>T="str"
 | .int _=>T="int"
 | .ref p=>(T="list"/\∃ xs,SqL K H p xs)\/(T="tuple"/\∃ o,K.lookup p=some o/\o.cls=.type "tuple"/\o.dict=none) ∨
   (T="dict"/\((∃ kvs,H p=some (.dK kvs))\/∃ kvs,H p=some (.dT kvs)))\/(T="set"/\∃ S n,H p=some (.set S n))
 | _=>False
theorem jR{pins:List (Addr × Obj)}{σ:St}{H:Hp}{s:Shared}{T:String}{x:V}{v:Value}(I:Inv X pins σ H s)(r:RelV x v)(ty:K1 X.K T x H) :
  s.TypeIs v T/\∀ a,v=.ref a->∃ ob,s.heap.get? a=some ob/\ob.dict=none:=by
 cases x with
 | str z =>
  obtain⟨t,rfl⟩:=r
  cases (show T="str" from ty)
  exact⟨typeIs_str s z t,λ_ e=>nomatch e⟩
 | int i =>
  obtain⟨t,rfl⟩:=r
  cases (show T="int" from ty)
  exact⟨typeIs_int s i t,λ_ e=>nomatch e⟩
 | ref p =>
  cases r
  rcases ty with⟨rfl,xs,hq⟩ | ⟨rfl,o,hk,hc,hd⟩ | ⟨rfl,hk⟩ | ⟨rfl,S,n,hk⟩
  ·obtain⟨its,_,pl,_⟩:=I.list hq
   refine⟨pl.isList.typeIs,λa e=> ?_⟩
   cases e
   obtain⟨o,n,e,c,hd,_⟩:=pl
   exact⟨o,e,hd⟩
  ·refine⟨⟨o,I.kIn p o hk,hc⟩,λa e=> ?_⟩
   cases e
   exact⟨o,I.kIn _ o hk,hd⟩
  ·have z:∃ o,s.heap.get? p=some o/\o.ExactDict:=by
    rcases hk with⟨kvs,hk⟩ | ⟨kvs,hk⟩
    ·obtain⟨_,_,_,_,o,_,_,e,ex,_⟩:=I.hok p _ hk
     exact⟨o,e,ex⟩
    ·obtain⟨_,_,_,_,o,_,_,e,ex,_⟩:=I.hok p _ hk
     exact⟨o,e,ex⟩
   obtain⟨o,e,ex⟩:=z
   refine⟨⟨o,e,ex.1⟩,λa e2=> ?_⟩
   cases e2
   exact⟨o,e,ex.2.1⟩
  ·obtain⟨o,_,_,_,e,ex,_⟩:=I.hok p _ hk
   refine⟨⟨o,e,ex.1⟩,λa e2=> ?_⟩
   cases e2
   exact⟨o,e,ex.2.1⟩
 | _=>exact False.elim ty
def jS(K:W.Frag)(T:String)(r:V->List V->Hp->VK->Prop)(to:TE):TE:=λσ H Q=>to σ H λx H1=>K1 K T x H1/\r x [] H1 Q
def FT(K:W.Frag)(T:String)(r:V->List V->Hp->VK->Prop)(to:TE)(t:TA):TE:=λσ H Q=>to σ H λx H1=>K1 K T x H1/\t σ H1 λxs H2=>r x xs H2 Q
variable{o e:Expr}{es:List Expr}{to:TE}{t:TA}{name:Str}{apos cpos:Pos}{T id:String}{r:V->List V->Hp->VK->Prop}
theorem G7(pa:PlainAttrs T)(slot:Slot T name id)(hty:typeOf (.builtin id)=pure (.type "method_descriptor"))(hm:MtR X id r)(ho:PE X o to)(ha:PA X (e::es) t)
  (hbase:attributeBase o name X.env (eval o X.env)=eval o X.env:=by rfl)
  (hfew:((backTo cpos (starEach (e::es) X.env)).all (λx=> !x.1) && (backToKw cpos (keywordEach [] X.env)).all (λx=>x.1.isSome)
   && decide ((e::es).length+([]:List Keyword).length+(if([]:List Keyword).isEmpty then 0 else 1)<30))=true:=by rfl)
  (hline:(apos.endLine == cpos.line)=true:=by rfl) (hs:starEach (e::es) X.env=(false,eval e X.env)::starEach es X.env:=by rfl) (hplain:(backTo cpos (starEach es X.env)).any (·.1)=false:=by rfl) :
  PE X (.Call (.Attribute o name apos) (e::es) [] cpos) (FT X.K T r to t):=by
 intro pins s σ H Q I h
 refine wpAny_Call_method_late hbase hfew hline rfl (AM (ho pins s σ H _ I h) λv s1 ⟨x,H1,I1,r1,ty,q1⟩=> ?_)
 obtain⟨h1,h2⟩:=jR I1 r1 ty
 refine⟨T,id,pa,slot,hty,h1,h2,?_⟩
 have hA:=ha cpos pins s1 σ H1 _ I1 q1
 rw[hs]at hA ⊢
 refine Calls.callWith_builtin (by show(false || (backTo cpos (starEach es X.env)).any (·.1))=false;rw[hplain]<;>rfl) (Calls.evalArgs_plain ?_)
 exact AM hA λus s2 ⟨vs,H2,I2,r2,q2⟩=>hm pins s2 σ H2 x vs v us Q I2 r1 r2 q2
end
end L2
namespace L2
def jT(X:Cx)(id:String)(r:V->List V->Hp->VK->Prop):Prop :=
 ∀ (pins:List (Addr × Obj)) (s:Shared) (σ:St) (H:Hp) (x:V) (xs:List V) (v:Value) (us:List Value) (Q:VK),Inv X pins σ H s->RelV x v->Vals xs us->r x xs H Q →
  wpAny (model X.prog X.w) X.A (call (.builtin id) (v::us)) (EP X pins σ Q) X.xe s
theorem Vals.one:∀ {x:V} {us:List Value},Vals [x] us->∃ u,us=[u]/\RelV x u
 | _,_,.cons r .nil=>⟨_,rfl,r⟩
theorem Vals.two:∀ {x y:V} {us:List Value},Vals [x,y] us->∃ u v,us=[u,v]/\RelV x u/\RelV y v
 | _,_,_,.cons r (.cons q .nil)=>⟨_,_,rfl,r,q⟩
theorem Vals.zero:∀ {us:List Value},Vals [] us->us=[]
 | _,.nil=>rfl
theorem Vals.reverse{xs:List V}{us:List Value}(h:Vals xs us):Vals xs.reverse us.reverse:=by
 induction h with
 | nil=>exact .nil
 | cons r t ih=>rw[List.reverse_cons,List.reverse_cons];exact Vals.append ih (.cons r .nil)
theorem Vals.rep{xs:List V}{us:List Value}(h:Vals xs us):∀ k:Nat,Vals (List.replicate k xs).flatten (List.replicate k us).flatten
 | 0=>.nil
 | k+1=>by
  rw[List.replicate_succ,List.replicate_succ,List.flatten_cons,List.flatten_cons]
  exact Vals.append h (Vals.rep h k)
theorem M0(its:List Value):∀ (k:Nat) (acc:List Value),
  List.foldl (λx1 x2=>x1++x2) acc.toArray (List.replicate k its.toArray)=(acc++(List.replicate k its).flatten).toArray
 | 0,acc=>by simp
 | k+1,acc=>by
  have e:acc.toArray++its.toArray=(acc++its).toArray:=by simp
  have e2:(acc++its)++(List.replicate k its).flatten=acc++(List.replicate (k+1) its).flatten:=by
   rw[List.replicate_succ,List.flatten_cons,List.append_assoc]
  rw[<-e2,<-M0 its k (acc++its),<-e,List.replicate_succ,List.foldl_cons]
section
variable{X:Cx}{pins:List (Addr × Obj)}{σ:St}{H:Hp}{s:Shared}{l b:Addr}{xs ys zs:List V}
theorem Inv.lset{its its':List Value}{n:Nat}{f:Array Value->Array Value}{t':Nat}(I:Inv X pins σ H s)(hH:H l=some (.lst xs))
  (e:s.heap.get? l=some { cls:=.type "list",data:=.seq its.toArray n }) (hf:f its.toArray=its'.toArray) (hv:Vals ys its') (hz:ys.length<=sizeLine) :
  Inv X pins σ (upd H l (.lst ys)) { s with heap:=s.heap.update l (Obj.mapSeq f),toks:=t' }:=by
 have q:=PySem.IsL.update e f
 rw[hf]at q
 refine I.write (x:=l) (e:=l) (by rw[hH];exact trivial) (.inl rfl) (λb' u hb hu=>(Heap.get?_update_other s.heap (Obj.mapSeq f) (Ne.symm hb)).trans hu) ⟨_,q⟩ ?_
 exact⟨hz,its',_,hv,q⟩
theorem Inv.lnew{its:List Value}{t':Nat}(I:Inv X pins σ H s)(hv:Vals ys its)(hz:ys.length<=sizeLine) :
  Inv X pins σ (upd H s.heap.objs.size (.lst ys)) { s with heap:=s.heap.push { cls:=.type "list",data:=.seq its.toArray },toks:=t' } :=
 I.laid (λ_ _ q=>Heap.get?_push_of_some _ q) (Nat.le_refl _) ⟨hz,its,0,hv,Heap.get?_push_size _ rfl⟩
theorem Inv.fresh(I:Inv X pins σ H s):H s.heap.objs.size=none:=I.hok.fresh (Nat.le_refl _)
theorem Inv.lstM(I:Inv X pins σ H s)(hH:H l=some (.lst xs)):xs.length<=sizeLine/\∃ (its:List Value) (n:Nat),Vals xs its/\xs.length=its.length/\s.heap.get? l=some { cls:=.type "list",data:=.seq its.toArray n }:=by
 obtain⟨z,its,n,r,e⟩:=I.hok l _ hH
 exact⟨z,its,n,r,r.length,e⟩
theorem jU{n:Nat}(h:n<=sizeLine):Builtin.List.listTooLong n=false:=by
 unfold Builtin.List.listTooLong
 exact decide_eq_false (by omega)
end
section
variable{X:Cx}
def VR:V->List V->Hp->VK->Prop:=λx vs H Q=>∃ l xs y,x=.ref l/\vs=[y]/\H l=some (.lst xs)/\xs.length<sizeLine/\Q .non (upd H l (.lst (xs++[y])))
theorem G8:jT X "list.append" VR:=by
 intro pins s σ H x vs v us Q I rx rv h
 obtain⟨l,xs,y,rfl,rfl,hH,hz,q⟩:=h
 cases rx
 obtain⟨u,rfl,ru⟩:=rv.one
 obtain⟨z,its,n,r,hl,e⟩:=I.lstM hH
 refine call_meets F.slot_list_append ⟨_,e,rfl⟩ F.entry_list_append (F.args_list_append_2 _ _) (PySem.list_append l its.toArray n u (by rw[List.size_toArray];omega)) ⟨e,?_⟩
 refine⟨.non,_,I.lset (its':=its++[u]) hH e (by simp) (r.append (.cons ru .nil)) ?_,rfl,q⟩
 rw[List.length_append,List.length_singleton]
 omega
def OY:R2:=λx y H Q=>∃ l b xs zs,x=.ref l/\y=.ref b/\H l=some (.lst xs)/\H b=some (.lst zs)/\xs.length+zs.length<=sizeLine/\∀ p,H p=none->Q (.ref p) (upd H p (.lst (xs++zs)))
theorem jV:OpR X (binaryOp .Add) OY:=by
 intro pins s σ H x y v u Q I rx ry h
 obtain⟨l,b,xs,zs,rfl,rfl,hH,hB,hz,q⟩:=h
 cases rx
 cases ry
 obtain⟨z,its,n,r,hl,e⟩:=I.lstM hH
 obtain⟨z2,its2,n2,r2,hl2,e2⟩:=I.lstM hB
 refine PySem.P.add_list e e2 ?_ (by rw[List.size_toArray,List.size_toArray];omega)
 have ea:its.toArray++its2.toArray=(its++its2).toArray:=by simp
 rw[ea]
 exact⟨.ref _,_,I.lnew (t':=s.toks) (r.append r2) (by rw[List.length_append];omega),rfl,q _ I.fresh⟩
def OZ:R2:=λx y H Q=>∃ l k xs,x=.ref l/\y=.int k/\H l=some (.lst xs)/\ -(2 ^ 63)<=k/\k<2 ^ 63/\xs.length * k.toNat<=sizeLine ∧
 ∀ p,H p=none->Q (.ref p) (upd H p (.lst (List.replicate k.toNat xs).flatten))
theorem VS{α :Type}(xs:List α)(k:Nat):(List.replicate k xs).flatten.length=k * xs.length:=by
 induction k with
 | zero=>simp
 | succ k ih=>rw[List.replicate_succ,List.flatten_cons,List.length_append,ih,Nat.succ_mul,Nat.add_comm]
theorem jW:OpR X (binaryOp .Mult) OZ:=by
 intro pins s σ H x y v u Q I rx ry h
 obtain⟨l,k,xs,rfl,rfl,hH,h1,h2,hz,q⟩:=h
 cases rx
 obtain⟨t,rfl⟩:=ry
 obtain⟨z,its,n,r,hl,e⟩:=I.lstM hH
 have hlen:its.toArray.size * k.toNat<=sizeLine:=by rw[List.size_toArray,<-hl];exact hz
 have hcap:¬ its.toArray.size * k.toNat >(2 ^ 63 - 1) / 8:=by
  have:(sizeLine:Nat)<=(2 ^ 63 - 1) / 8:=by decide
  omega
 have hfit:¬ (!Builtin.List.listFitsIndex k)=true:=by
  rw[fitsIndex_both h1 h2]
  exact Bool.false_ne_true
 have hlong:¬ Builtin.List.listTooLong (its.toArray.size * k.toNat)=true:=by
  rw[jU hlen]
  exact Bool.false_ne_true
 have hnew:List.foldl (λx1 x2=>x1++x2) #[] (List.replicate (if its.toArray.isEmpty=true then 0 else k.toNat) its.toArray)=(List.replicate k.toNat its).flatten.toArray:=by
  have f0:∀ m:Nat,List.foldl (λx1 x2=>x1++x2) #[] (List.replicate m its.toArray)=(List.replicate m its).flatten.toArray:=λm=>by
   have:=M0 its m []
   rw[List.nil_append]at this
   exact this
  rw[f0]
  cases its with
  | nil=>simp
  | cons a r'=>rw[if_neg (by simp)]
 refine wpAny_binaryOp_repeat_ref (T:="list") (U:="int") (by decide) ⟨_,e,rfl⟩ (λs'=>typeIs_int s' k t) noFill_list_mul F.fills_int_mul F.slot_int_rmul repeat_list F.slot_int_index.lookup
  (call_meets F.slot_int_rmul (typeIs_int s k t) F.entry_int_rmul (F.args_int_rmul_2 _ _) (int___rmul___int_list k t l its.toArray n)
   ⟨e,rfl,⟨_,e,rfl⟩,call_meets F.slot_list_mul ⟨_,e,rfl⟩ F.entry_list_mul (F.args_list_mul_2 _ _) (AutoListH.list___mul___list_int_3 l its.toArray n k t hfit hcap hlong) ⟨e,?_⟩⟩)
 rw[hnew]
 exact⟨.ref _,_,I.lnew (t':=s.toks) (r.rep k.toNat) (by rw[VS,Nat.mul_comm];exact hz),rfl,q _ I.fresh⟩
end
section
variable{prog:Program}{w:World}{A:Around}{E:Value->Shared->Prop}{s:Shared}
set_option maxRecDepth 100000 in
end
section
variable{X:Cx}
end
end L2
namespace L2
section
variable{κ :Type}[DecidableEq κ]
def AZ(kvs:List (κ × V))(k: κ):Option V:=(kvs.find? λkv=>decide (kv.1=k)).map (·.2)
def BT(kvs:List (κ × V))(k: κ)(v:V):List (κ × V) :=
 if(kvs.any λkv=>decide (kv.1=k))=true then kvs.map (λkv=>if kv.1=k then(kv.1,v)else kv)else kvs++[(k,v)]
def VT(kvs:List (κ × V))(k: κ):List (κ × V):=kvs.filter λkv=>decide (kv.1≠k)
theorem ET{p: κ × V}{r:List (κ × V)}{k: κ}(e:p.1=k):AZ (p::r) k=some p.2:=by simp[AZ,List.find?_cons,e]
theorem EU{p: κ × V}{r:List (κ × V)}{k: κ}(e:¬ p.1=k):AZ (p::r) k=AZ r k:=by simp[AZ,List.find?_cons,e]
theorem EV(k: κ):∀ kvs:List (κ × V),(kvs.any λkv=>decide (kv.1=k))=(AZ kvs k).isSome
 | []=>rfl
 | p::r=>by
  rw[List.any_cons]
  by_cases e:p.1=k
  ·simp only[ET e,decide_eq_true e,Bool.true_or,Option.isSome_some]
  ·rw[EU e,decide_eq_false e,Bool.false_or];exact EV k r
theorem VU(k j: κ)(y:V):∀ kvs:List (κ × V),AZ (kvs.map λkv=>if kv.1=k then(kv.1,y)else kv) j=(AZ kvs j).map λx=>if j=k then y else x
 | []=>rfl
 | p::r=>by
  have ih:=VU k j y r
  rw[List.map_cons]
  by_cases h:p.1=k
  ·rw[if_pos h]
   by_cases e:p.1=j
   ·rw[ET (p:=(p.1,y)) e,ET e,Option.map_some,if_pos (e.symm.trans h)]
   ·rw[EU (p:=(p.1,y)) e,EU e,ih]
  ·rw[if_neg h]
   by_cases e:p.1=j
   ·rw[ET (p:=p) e,ET e,Option.map_some,if_neg (λz=>h (e.trans z))]
   ·rw[EU (p:=p) e,EU e,ih]
theorem VW(k j: κ)(y:V):∀ kvs:List (κ × V),AZ kvs k=none->AZ (kvs++[(k,y)]) j=if j=k then some y else AZ kvs j
 | [],_=>by
  by_cases e:k=j
  ·rw[if_pos e.symm];exact ET (p:=(k,y)) e
  ·rw[if_neg (λz=>e z.symm)];exact EU (p:=(k,y)) e
 | p::r,hn=>by
  rw[List.cons_append]
  have hk:¬ p.1=k:=λz=>by rw[ET z]at hn;cases hn
  rw[EU hk]at hn
  have ih:=VW k j y r hn
  by_cases e:p.1=j
  ·rw[ET e,ET e,if_neg (λz=>hk (e.trans z))]
  ·rw[EU e,EU e,ih]
theorem M3(kvs:List (κ × V))(k j: κ)(y:V):AZ (BT kvs k y) j=if j=k then some y else AZ kvs j:=by
 unfold BT
 by_cases a:(kvs.any λkv=>decide (kv.1=k))=true
 ·rw[if_pos a,VU]
  rw[EV]at a
  by_cases e:j=k
  ·obtain⟨x,hx⟩:=Option.isSome_iff_exists.mp a
   rw[if_pos e,e,hx,Option.map_some,if_pos rfl]
  ·rw[if_neg e]
   cases AZ kvs j with
   | none=>rfl
   | some x=>rw[Option.map_some,if_neg e]
 ·rw[if_neg a]
  refine VW k j y kvs ?_
  rw[EV]at a
  cases q:AZ kvs k with
  | none=>rfl
  | some x=>rw[q]at a;exact(a rfl).elim
theorem IM(kvs:List (κ × V))(k: κ)(v:V):(BT kvs k v).length<=kvs.length+1:=by
 unfold BT
 split
 ·rw[List.length_map];omega
 ·rw[List.length_append,List.length_cons,List.length_nil];omega
theorem VX{kvs:List (κ × V)}{k: κ}(v:V)(h:AZ kvs k=none):BT kvs k v=kvs++[(k,v)]:=by
 unfold BT
 rw[EV,h]
 exact if_neg (by decide)
theorem RelO.isSome_eq{o:Option V}{u:Option Value}(r:RelO o u):o.isSome=u.isSome:=by
 cases o with
 | none=>cases u with
  | none=>rfl
  | some _=>exact(show False from r).elim
 | some _=>cases u with
  | none=>exact(show False from r).elim
  | some _=>rfl
theorem RelO.getD{o:Option V}{u:Option Value}{d:V}{d':Value}(r:RelO o u)(rd:RelV d d'):RelV (o.getD d) (u.getD d'):=by
 cases o with
 | none=>cases u with
  | none=>exact rd
  | some _=>exact(show False from r).elim
 | some _=>cases u with
  | none=>exact(show False from r).elim
  | some _=>exact r
theorem KV.val{kvs:List (κ × V)}{vs:List (κ × Value)}(r:KV kvs vs)(k: κ):RelO (AZ kvs k) (valueAt vs k):=by
 unfold KV at r
 induction r with
 | nil=>exact True.intro
 | @cons p q ps qs h t ih =>
  obtain⟨h1,h2⟩:=h
  by_cases e:p.1=k
  ·have e':q.1=k:=h1.symm.trans e
   have b:valueAt (q::qs) k=some q.2:=by simp[valueAt,List.find?_cons,e']
   rw[ET e,b];exact h2
  ·have e':¬ q.1=k:=λz=>e (h1.trans z)
   have b:valueAt (q::qs) k=valueAt qs k:=by simp[valueAt,List.find?_cons,e']
   rw[EU e,b];exact ih
theorem KV.any{kvs:List (κ × V)}{vs:List (κ × Value)}(r:KV kvs vs)(k: κ):(kvs.any λkv=>decide (kv.1=k))=vs.any λkv=>decide (kv.1=k):=by
 unfold KV at r
 induction r with
 | nil=>rfl
 | cons h t ih=>rw[List.any_cons,List.any_cons,ih,h.1]
theorem KV.repl{kvs:List (κ × V)}{vs:List (κ × Value)}(r:KV kvs vs)(k: κ){y:V}{u:Value}(ry:RelV y u) :
  KV (kvs.map λkv=>if kv.1=k then(kv.1,y)else kv) (vs.map λkv=>if kv.1=k then(kv.1,u)else kv):=by
 unfold KV at r ⊢
 induction r with
 | nil=>exact .nil
 | @cons p q ps qs h t ih =>
  rw[List.map_cons,List.map_cons]
  refine .cons ?_ ih
  obtain⟨h1,h2⟩:=h
  by_cases e:p.1=k
  ·rw[if_pos e,if_pos (h1.symm.trans e)];exact⟨h1,ry⟩
  ·rw[if_neg e,if_neg (λz=>e (h1.trans z))];exact⟨h1,h2⟩
theorem KV.put{kvs:List (κ × V)}{vs:List (κ × Value)}(r:KV kvs vs)(k: κ){y:V}{u:Value}(ry:RelV y u):KV (BT kvs k y) (stored vs k u):=by
 unfold BT stored
 rw[r.any k]
 by_cases e:(vs.any λkv=>decide (kv.1=k))=true
 ·rw[if_pos e,if_pos e];exact r.repl k ry
 ·rw[if_neg e,if_neg e];exact Paired.snoc r ⟨rfl,ry⟩
theorem KV.drop{kvs:List (κ × V)}{vs:List (κ × Value)}(r:KV kvs vs)(k: κ):KV (VT kvs k) (without vs k):=by
 unfold KV at r ⊢
 unfold VT without
 induction r with
 | nil=>exact .nil
 | @cons p q ps qs h t ih =>
  obtain⟨h1,h2⟩:=h
  rw[List.filter_cons,List.filter_cons]
  by_cases e:p.1=k
  ·have a:¬ decide (p.1≠k)=true:=by simp[e]
   have b:¬ decide (q.1≠k)=true:=by simp[h1.symm.trans e]
   rw[if_neg a,if_neg b];exact ih
  ·have e':¬ q.1=k:=λz=>e (h1.trans z)
   have a:decide (p.1≠k)=true:=by simp[e]
   have b:decide (q.1≠k)=true:=by simp[e']
   rw[if_pos a,if_pos b];exact .cons ⟨h1,h2⟩ ih
theorem KV.keys{kvs:List (κ × V)}{vs:List (κ × Value)}(r:KV kvs vs):kvs.map (·.1)=vs.map (·.1):=by
 unfold KV at r
 induction r with
 | nil=>rfl
 | cons h t ih=>rw[List.map_cons,List.map_cons,ih,h.1]
theorem KV.length{kvs:List (κ × V)}{vs:List (κ × Value)}(r:KV kvs vs):kvs.length=vs.length:=Paired.length r
end
theorem G9{P:Program}{w:World}{k:AN}{u:Value}(r:RelV (kV k) u):(C4 P w).is k u=true:=by
 cases k with
 | inl i=>obtain⟨t,e⟩:=(show ∃ t,u=Value.int i t from r);subst e;exact f8 P w i t
 | inr x=>obtain⟨t,e⟩:=(show ∃ t,u=Value.str x t from r);subst e;exact f9 P w x t
theorem VY{P:Program}{w:World}:∀ {ks:List AN} {us:List Value},Vals (ks.map kV) us->ItemsAre (C4 P w) ks us
 | [],_,r=>by rw[List.map_nil]at r;cases r;exact .nil
 | k::ks,_,r=>by
  rw[List.map_cons]at r
  cases r with
  | cons h t=>exact .cons (G9 h) (VY t)
abbrev KT(H:Hp):List (List AN × V)->List (List AN × Addr × Value)->Prop:=Paired λp q=>p.1=q.1/\H q.2.1=some (.tup (p.1.map kV))/\RelV p.2 q.2.2
theorem KT.val{H:Hp}{kvs:List (List AN × V)}{xs:List (List AN × Addr × Value)}(r:KT H kvs xs)(k:List AN):RelO (AZ kvs k) ((atKey xs k).map (·.2)):=by
 induction r with
 | nil=>exact True.intro
 | @cons p q ps qs h t ih =>
  obtain⟨h1,_,h2⟩:=h
  by_cases e:p.1=k
  ·have e':q.1=k:=h1.symm.trans e
   have b:atKey (q::qs) k=some q.2:=by simp[atKey,List.find?_cons,e']
   rw[ET e,b];exact h2
  ·have e':¬ q.1=k:=λz=>e (h1.trans z)
   have b:atKey (q::qs) k=atKey qs k:=by simp[atKey,List.find?_cons,e']
   rw[EU e,b];exact ih
theorem KT.repl{H:Hp}{kvs:List (List AN × V)}{xs:List (List AN × Addr × Value)}(r:KT H kvs xs)(k:List AN){y:V}{u:Value}(ry:RelV y u) :
  KT H (kvs.map λkv=>if kv.1=k then(kv.1,y)else kv) (xs.map (putAt k u)):=by
 induction r with
 | nil=>exact .nil
 | @cons p q ps qs h t ih =>
  rw[List.map_cons,List.map_cons]
  refine .cons ?_ ih
  obtain⟨h1,h2,h3⟩:=h
  unfold putAt
  by_cases e:p.1=k
  ·rw[if_pos e,if_pos (h1.symm.trans e)];exact⟨h1,h2,ry⟩
  ·rw[if_neg e,if_neg (λz=>e (h1.trans z))];exact⟨h1,h2,h3⟩
theorem KT.put{H:Hp}{kvs:List (List AN × V)}{xs:List (List AN × Addr × Value)}(r:KT H kvs xs)(k:List AN){b:Addr}{y:V}{u:Value}(hb:H b=some (.tup (k.map kV)))(ry:RelV y u) :
  KT H (BT kvs k y) (storedH xs k b u):=by
 have e:(kvs.any λkv=>decide (kv.1=k))=(atKey xs k).isSome:=by
  rw[EV,(r.val k).isSome_eq,Option.isSome_map]
 unfold BT storedH
 rw[e]
 by_cases q:(atKey xs k).isSome=true
 ·rw[if_pos q,if_pos q];exact r.repl k ry
 ·rw[if_neg q,if_neg q];exact Paired.snoc r ⟨rfl,hb,ry⟩
theorem KT.keeps{H H':Hp}{kvs:List (List AN × V)}{xs:List (List AN × Addr × Value)}(r:KT H kvs xs)(ht:∀ b ys,H b=some (.tup ys)->H' b=some (.tup ys)):KT H' kvs xs :=
 Paired.mapP r λ_ _ z=>⟨z.1,ht _ _ z.2.1,z.2.2⟩
section
variable{P:Program}{w:World}{H:Hp}{h:Heap}{a:Addr}
theorem VZ{u:HO}(ok:HOk P w H h)(e:Rd H a u):ObjOk P w H h a u:=e.ok ok
theorem FU{kvs:List (AN × V)}(ok:HOk P w H h)(e:Rd H a (.dK kvs)):kvs.length<=sizeLine/\(a == sysModules)=false/\∃ vs,KV kvs vs/\h.DictOf (C4 P w) a vs :=
 show ObjOk P w H h a (.dK kvs)from VZ ok e
theorem V2{kvs:List (AN × V)}(ok:HOk P w H h)(e:H a=some (.dK kvs)):kvs.length<=sizeLine/\(a == sysModules)=false/\∃ vs,KV kvs vs/\h.DictOf (C4 P w) a vs:=FU ok (.inl e)
theorem IN{ks:List AN}(ok:HOk P w H h)(e:H a=some (.tup (ks.map kV))):(tupleKind (C4 P w)).is h ks a:=by
 obtain⟨_,its,r,o,h1,h2,n,h3⟩:=(show ObjOk P w H h a (.tup (ks.map kV))from ok a _ e)
 exact⟨o,its.toArray,n,h1,h2,h3,by simpa using VY r⟩
theorem HA{kvs:List (List AN × V)}(ok:HOk P w H h)(e:Rd H a (.dT kvs)):kvs.length<=sizeLine/\(a == sysModules)=false ∧
  ∃ xs,KT H kvs xs/\h.DictOfH (tupleKind (C4 P w)) a xs:=by
 obtain⟨z,y,xs,r,o,es,ep,h1,h2,h3,h4,h5⟩:=(show ObjOk P w H h a (.dT kvs)from VZ ok e)
 refine⟨z,y,xs,r,o,es,ep,h1,h2,h3,h4,λx hx=> ?_,h5⟩
 have all:∀ {l:List (List AN × V)} {m:List (List AN × Addr × Value)},KT H l m->∀ x∈m,(tupleKind (C4 P w)).is h x.1 x.2.1:=by
  intro l m q
  induction q with
  | nil=>intro x hx;exact nomatch hx
  | @cons p q ps qs hq t ih =>
   intro x hx
   rcases List.mem_cons.mp hx with e | hx
   ·subst e
    exact IN ok (by rw[<-hq.1];exact hq.2.1)
   ·exact ih x hx
 exact all r x hx
theorem jX{kvs:List (List AN × V)}(ok:HOk P w H h)(e:H a=some (.dT kvs)):kvs.length<=sizeLine/\(a == sysModules)=false ∧
  ∃ xs,KT H kvs xs/\h.DictOfH (tupleKind (C4 P w)) a xs:=HA ok (.inl e)
end
def DGet(H:Hp)(a:Addr)(y:V)(r:Option V):Prop :=
 (∃ kvs k,Rd H a (.dK kvs)/\y=kV k/\r=AZ kvs k)\/∃ kvs k b,Rd H a (.dT kvs)/\y=.ref b/\H b=some (.tup (k.map kV))/\r=AZ kvs k
def DPut(H:Hp)(a:Addr)(y v:V)(H':Hp):Prop :=
 (∃ kvs k,H a=some (.dK kvs)/\y=kV k/\kvs.length<sizeLine/\H'=upd H a (.dK (BT kvs k v))) ∨
 ∃ kvs k b,H a=some (.dT kvs)/\y=.ref b/\H b=some (.tup (k.map kV))/\kvs.length<sizeLine/\H'=upd H a (.dT (BT kvs k v))
theorem DGet.k{H:Hp}{a:Addr}{kvs:List (AN × V)}{k:AN}(e:H a=some (.dK kvs)):DGet H a (kV k) (AZ kvs k):=.inl ⟨kvs,k,.inl e,rfl,rfl⟩
theorem DGet.t{H:Hp}{a b:Addr}{kvs:List (List AN × V)}{k:List AN}(e:H a=some (.dT kvs))(eb:H b=some (.tup (k.map kV))):DGet H a (.ref b) (AZ kvs k):=.inr ⟨kvs,k,b,.inl e,rfl,eb,rfl⟩
theorem DPut.k{H:Hp}{a:Addr}{kvs:List (AN × V)}{k:AN}{v:V}(e:H a=some (.dK kvs))(hl:kvs.length<sizeLine):DPut H a (kV k) v (upd H a (.dK (BT kvs k v))):=.inl ⟨kvs,k,e,rfl,hl,rfl⟩
theorem DPut.t{H:Hp}{a b:Addr}{kvs:List (List AN × V)}{k:List AN}{v:V}(e:H a=some (.dT kvs))(eb:H b=some (.tup (k.map kV)))(hl:kvs.length<sizeLine) :
  DPut H a (.ref b) v (upd H a (.dT (BT kvs k v))):=.inr ⟨kvs,k,b,e,rfl,eb,hl,rfl⟩
section
variable{X:Cx}{pins:List (Addr × Obj)}{σ:St}{H:Hp}{s:Shared}{a:Addr}{y v:V}{u r:Value}{o:Option V}{A:Around}{E:Value->Shared->Prop}
theorem Inv.big(I:Inv X pins σ H s):sysModules<s.heap.objs.size:=by
 have h:mainGlobals<s.heap.objs.size:=(I.mod.glob.keeps I.bk).lt
 exact Nat.lt_trans (by decide) h
theorem jY{Q:Value->Shared->Prop}(hu:A.units+1<cLine)(I:Inv X pins σ H s)(g:DGet H a y (some v))(ry:RelV y u)(h:∀ w' s',Inv X pins σ H s'->RelV v w'->Q w' s') :
  wpAny (model X.prog X.w) A (getItem (.ref a) u) Q E s:=by
 rcases g with⟨kvs,k,e,ey,l⟩ | ⟨kvs,k,b,e,ey,eb,l⟩
 ·subst ey
  obtain⟨z,hd,vs,rel,dd⟩:=FU I.hok e
  obtain⟨w',hw,rw'⟩:=RelO.some_of (v:=v) (o:=valueAt vs k) (by rw[l];exact rel.val k)
  exact wpAny_getItem_of (G9 ry) dd.mapOf hw (h w' _ (I.tok _) rw')
 ·subst ey
  cases (show u=Value.ref b from ry)
  obtain⟨z,hd,xs,rel,dd⟩:=HA I.hok e
  obtain⟨w',hw,rw'⟩:=RelO.some_of (v:=v) (o:=(atKey xs k).map (·.2)) (by rw[l];exact rel.val k)
  obtain⟨p,hp,hp2⟩:=Option.map_eq_some_iff.mp hw
  refine wpAny_getItem_heap (tupleKind_room_in1 hu) (IN I.hok eb) dd hp ?_
  rw[hp2]
  exact h w' _ (I.tok _) rw'
theorem jZ{Q:Value->Shared->Prop}(hu:A.units+1<cLine)(I:Inv X pins σ H s)(g:DGet H a y o)(ry:RelV y u)(h:∀ s',Inv X pins σ H s'->Q (.bool o.isSome) s') :
  wpAny (model X.prog X.w) A (compareOp .In u (.ref a)) Q E s:=by
 rcases g with⟨kvs,k,e,ey,l⟩ | ⟨kvs,k,b,e,ey,eb,l⟩
 ·subst ey
  obtain⟨z,hd,vs,rel,dd⟩:=FU I.hok e
  refine wpAny_in_of (G9 ry) hd dd.mapOf ?_
  rw[<-(rel.val k).isSome_eq,<-l]
  exact h _ (I.tok _)
 ·subst ey
  cases (show u=Value.ref b from ry)
  obtain⟨z,hd,xs,rel,dd⟩:=HA I.hok e
  refine wpAny_in_heap (tupleKind_room_in1 hu) (IN I.hok eb) hd dd ?_
  have q:=(rel.val k).isSome_eq
  rw[Option.isSome_map]at q
  rw[<-q,<-l]
  exact h _ (I.tok _)
theorem j3{Q:Value->Shared->Prop}(hu:A.units+1<cLine)(I:Inv X pins σ H s)(g:DGet H a y o)(ry:RelV y u)(h:∀ s',Inv X pins σ H s'->Q (.bool (!o.isSome)) s') :
  wpAny (model X.prog X.w) A (compareOp .NotIn u (.ref a)) Q E s:=by
 rcases g with⟨kvs,k,e,ey,l⟩ | ⟨kvs,k,b,e,ey,eb,l⟩
 ·subst ey
  obtain⟨z,hd,vs,rel,dd⟩:=FU I.hok e
  refine wpAny_notIn_of (G9 ry) hd dd.mapOf ?_
  rw[<-(rel.val k).isSome_eq,<-l]
  exact h _ (I.tok _)
 ·subst ey
  cases (show u=Value.ref b from ry)
  obtain⟨z,hd,xs,rel,dd⟩:=HA I.hok e
  refine wpAny_notIn_heap (tupleKind_room_in1 hu) (IN I.hok eb) hd dd ?_
  have q:=(rel.val k).isSome_eq
  rw[Option.isSome_map]at q
  rw[<-q,<-l]
  exact h _ (I.tok _)
theorem O0{h':Heap}{t':Nat}{ob:HO}(I:Inv X pins σ H s)(mu:KQ (H a))(hs:Heap.SameBut a s.heap h')(he:∃ q,h'.get? a=some q)(new:ObjOk X.prog X.w (upd H a ob) h' a ob) :
  Inv X pins σ (upd H a ob) { s with heap:=h',toks:=t' } :=
 I.write (x:=a) (e:=a) mu (.inl rfl) (λb q hb z=>(hs.2 b hb).trans z) he new
theorem O1{P:Program}{w:World}{H':Hp}{h':Heap}{kvs:List (AN × V)}{vs:List (AN × Value)}(z:kvs.length<=sizeLine)(hd:(a == sysModules)=false)(rel:KV kvs vs)(dd:h'.DictOf (C4 P w) a vs) :
  ObjOk P w H' h' a (.dK kvs):=⟨z,hd,vs,rel,dd⟩
theorem j4{H':Hp}{Q:Unit->Shared->Prop}(hu:A.units+1<cLine)(I:Inv X pins σ H s)(g:DPut H a y v H')(ry:RelV y u)(rv:RelV v r)(h:∀ s',Inv X pins σ H' s'->Q () s') :
  wpAny (model X.prog X.w) A (setItem (.ref a) u r) Q E s:=by
 rcases g with⟨kvs,k,e,ey,l,eH⟩ | ⟨kvs,k,b,e,ey,eb,l,eH⟩
 ·subst ey eH
  obtain⟨z,hd,vs,rel,dd⟩:=V2 I.hok e
  have hz:vs.length<=sizeLine:=by rw[<-rel.length];exact z
  have hl:(BT kvs k v).length<=sizeLine:=by have:=IM kvs k v;omega
  refine wpAny_setItem_pairs (hsz:=hz) (G9 ry) dd λh' dd' hs=>h _ ?_
  have he:∃ q,h'.get? a=some q:=let ⟨q,_,_,hq,_⟩:=dd';⟨q,hq⟩
  exact O0 I (by rw[e];exact True.intro) hs he (O1 hl hd (rel.put k rv) dd')
 ·subst ey eH
  cases (show u=Value.ref b from ry)
  obtain⟨z,hd,xs,rel,dd⟩:=jX I.hok e
  have hz:xs.length<=sizeLine:=by rw[<-Paired.length rel];exact z
  have hl:(BT kvs k v).length<=sizeLine:=by have:=IM kvs k v;omega
  refine wpAny_setItem_heap (hsz:=hz) (tupleKind_room_in1 hu) (IN I.hok eb) dd λh' dd' hs=>h _ ?_
  obtain⟨q,es,ep,hq,h2,h3,h4,_,h5⟩:=dd'
  refine O0 I (by rw[e];exact True.intro) hs ⟨q,hq⟩ ⟨hl,hd,_,(rel.put k eb rv).keeps λc ys ec=> ?_,q,es,ep,hq,h2,h3,h4,h5⟩
  rw[AI (A3 ec e (λz=>nomatch z))]
  exact ec
end
section
variable{X:Cx}{pins:List (Addr × Obj)}{σ:St}{H:Hp}{s:Shared}{a:Addr}{kvs:List (AN × V)}{k:AN}{u:Value}{A:Around}{E:Value->Shared->Prop}
theorem j5{Q:Value->Shared->Prop}(I:Inv X pins σ H s)(e:Rd H a (.dK kvs))(h:∀ t s',Inv X pins σ H s'->Q (.int kvs.length t) s'):wpAny (model X.prog X.w) A (call (.builtin "len") [.ref a]) Q E s:=by
 obtain⟨z,hd,vs,rel,dd⟩:=FU I.hok e
 refine call_len_dict hd dd (by rw[<-rel.length];rw[sizeLine_eq]at z;omega) ?_
 rw[<-rel.length]
 exact h _ _ (I.tok _)
end
def V3(i:Expr):Prop:=∀ ov iv,subscripted i false ov iv=operate [ov,iv] (getItem ov iv)
theorem j6{prog:Program}{w:World}{A:Around}{E:Value->Shared->Prop}{s:Shared}{env:Env}{value slice:Expr}{pos:Pos}{T id:String}{Q:Value->Shared->Prop}
  (hl:typeLookup (.type T) "__getitem__"=pure (some (.builtin id))) (hs:V3 slice)
  (h:wpAny (model prog w) A (eval value env) (λo s₁=>wpAny (model prog w) A (eval slice env) (λi s₂=>s₂.TypeIs o T/\wpAny (model prog w) A (getItem o i) Q E s₂) E s₁) E s) :
  wpAny (model prog w) A (eval (.Subscript value slice pos) env) Q E s:=by
 refine Subscript_ (wpAny_mono h (λo s₁ h₁=>wpAny_mono h₁ (λi s₂ h₂=> ?_) λ_ _ x=>x) λ_ _ x=>x)
 obtain⟨hT,h₂⟩:=h₂
 unfold subscriptTail
 refine wpAny_bind ?_
 rw[getitemInPython_of_ne hT.not_modules]
 refine wpAny_bind (wpAny_specialOf hT hl ?_)
 have fin:wpAny (model prog w) A (subscripted slice false o i) (λr s₃=>wpAny (model prog w) A (letTemporaryGo value o r >>= λ_=>pure r) Q E s₃) E s₂:=by
  rw[hs o i]
  exact wpAny_operating (wpAny_mono h₂ (λr s₃ h₃=>wpAny_bind (wpAny_letTemporaryGo (wpAny_pure h₃))) λ_ _ x=>x)
 first
  | exact wpAny_pure (wpAny_bind fin)
  | exact wpAny_bind (wpAny_pure (wpAny_bind fin))
  | exact wpAny_bind fin
theorem j7{X:Cx}{pins:List (Addr × Obj)}{σ:St}{H:Hp}{s:Shared}{a:Addr}{y:V}{o:Option V}(I:Inv X pins σ H s)(g:DGet H a y o):s.TypeIs (.ref a) "dict":=by
 rcases g with⟨kvs,k,e,_,_⟩ | ⟨kvs,k,b,e,_,_,_⟩
 ·obtain⟨_,_,vs,_,dd⟩:=FU I.hok e
  exact dd.typeIs
 ·obtain⟨_,_,xs,_,dd⟩:=HA I.hok e
  exact dd.typeIs
def DT(td ty:TE):TE:=λσ H Q=>td σ H λx H1=>ty σ H1 λy H2=>∃ a v,x=.ref a/\DGet H2 a y (some v)/\Q v H2
def M4(ty td:TE):TE:=λσ H Q=>ty σ H λy H1=>td σ H1 λx H2=>∃ a o,x=.ref a/\DGet H2 a y o/\Q (.bl o.isSome) H2
def GO(ty td:TE):TE:=λσ H Q=>ty σ H λy H1=>td σ H1 λx H2=>∃ a o,x=.ref a/\DGet H2 a y o/\Q (.bl (!o.isSome)) H2
def HB(td ty tv:TE):TS:=λD σ H=>tv σ H λv H1=>td σ H1 λx H2=>ty σ H2 λy H3=>∃ a H4,x=.ref a/\DPut H3 a y v H4/\D.nx σ H4
section
variable{X:Cx}{o i e value:Expr}{pos pos' tpos:Pos}{td ty tv:TE}
theorem EB(hu:X.A.units+1<cLine)(ho:PE X o td)(hi:PE X i ty)(hs:V3 i):PE X (.Subscript o i pos) (DT td ty):=by
 intro pins s σ H Q I h
 refine j6 PySem.F.slot_dict_getitem.lookup hs (AM (ho pins s σ H _ I h) λu s1 ⟨x,H1,I1,rx,q1⟩=>AM (hi pins s1 σ H1 _ I1 q1) λiv s2 ⟨y,H2,I2,ry,a,v,ex,g,q2⟩=> ?_)
 subst ex
 obtain rfl:u=Value.ref a:=rx
 exact⟨j7 I2 g,jY hu I2 g ry λw' s3 I3 rw'=>⟨v,H2,I3,rw',q2⟩⟩
theorem V4(hu:X.A.units+1<cLine)(hi:PE X i ty)(ho:PE X o td):PC X .In i o (M4 ty td):=by
 intro pins s σ H Q I h
 refine AM (hi pins s σ H _ I h) λiv s1 ⟨y,H1,I1,ry,q1⟩=>AM (ho pins s1 σ H1 _ I1 q1) λu s2 ⟨x,H2,I2,rx,a,ov,ex,g,q2⟩=> ?_
 subst ex
 obtain rfl:u=Value.ref a:=rx
 exact jZ hu I2 g ry λs3 I3=>⟨.bl ov.isSome,H2,I3,rfl,q2⟩
theorem IP(hu:X.A.units+1<cLine)(hi:PE X i ty)(ho:PE X o td):PC X .NotIn i o (GO ty td):=by
 intro pins s σ H Q I h
 refine AM (hi pins s σ H _ I h) λiv s1 ⟨y,H1,I1,ry,q1⟩=>AM (ho pins s1 σ H1 _ I1 q1) λu s2 ⟨x,H2,I2,rx,a,ov,ex,g,q2⟩=> ?_
 subst ex
 obtain rfl:u=Value.ref a:=rx
 exact j3 hu I2 g ry λs3 I3=>⟨.bl (!ov.isSome),H2,I3,rfl,q2⟩
theorem K2(hu:X.A.units+1<cLine)(ho:PE X o td)(hi:PE X i ty)(hv:PE X value tv)(hs:swapsWith value (some (.Subscript o i pos')) pos.line X.env=pure false) :
  PS X (.Assign [.Subscript o i pos'] value pos) (HB td ty tv):=by
 intro pins s σ H D I h
 refine wpAny_Assign_Subscript (AM (hv pins s σ H _ I h) λr s1 ⟨v,H1,I1,rv,q1⟩=>AM (ho pins s1 σ H1 _ I1 q1) λu s2 ⟨x,H2,I2,rx,q2⟩=>AM (hi pins s2 σ H2 _ I2 q2) λiv s3 ⟨y,H3,I3,ry,a,H4,ex,g,q3⟩=> ?_) hs
 subst ex
 obtain rfl:u=Value.ref a:=rx
 exact j4 hu I3 g ry rv λs4 I4=>⟨σ,H4,I4,q3⟩
end
theorem V5{P:Program}{w:World}{H:Hp}(h:Heap)(hb:sysModules<h.objs.size):ObjOk P w H (h.push { cls:=.type "dict",data:=.dict #[] }) h.objs.size (.dK []) :=
 ⟨Nat.zero_le _,beq_eq_false_iff_ne.mpr (Ne.symm (Nat.ne_of_lt hb)),[],.nil,Heap.DictOf.new h⟩
theorem j8{P:Program}{w:World}{H:Hp}(h:Heap)(hb:sysModules<h.objs.size):ObjOk P w H (h.push { cls:=.type "dict",data:=.dict #[] }) h.objs.size (.dT []) :=
 ⟨Nat.zero_le _,beq_eq_false_iff_ne.mpr (Ne.symm (Nat.ne_of_lt hb)),[],.nil,_,#[],0,Heap.get?_push_size _ rfl,⟨rfl,rfl,rfl⟩,rfl,rfl,List.nodup_nil⟩
def GP:TE:=λ_ H Q=>∀ p,H p=none->Q (.ref p) (upd H p (.dK []))
def M5:TE:=λ_ H Q=>∀ p,H p=none->Q (.ref p) (upd H p (.dT []))
section
variable{X:Cx}{pos:Pos}
theorem K3:PE X (.Dict [] [] pos) GP:=λpins s σ H Q I h =>
 wpAny_Dict_empty ⟨.ref s.heap.objs.size,_,I.laid (a:=s.heap.objs.size) (o:=.dK []) (t':=s.toks) (λ_ _ q=>Heap.get?_push_of_some _ q) (Nat.le_refl _) (V5 s.heap I.big),rfl,h _ (I.hok.fresh (Nat.le_refl _))⟩
theorem V6:PE X (.Dict [] [] pos) M5:=λpins s σ H Q I h =>
 wpAny_Dict_empty ⟨.ref s.heap.objs.size,_,I.laid (a:=s.heap.objs.size) (o:=.dT []) (t':=s.toks) (λ_ _ q=>Heap.get?_push_of_some _ q) (Nat.le_refl _) (j8 s.heap I.big),rfl,h _ (I.hok.fresh (Nat.le_refl _))⟩
end
def HC:List (TE × TE)->St->Hp->(List (V × V)->Hp->Prop)->Prop
 | [],_,H,Q=>Q [] H
 | (tk,tv)::r,σ,H,Q=>tk σ H λx H1=>tv σ H1 λy H2=>HC r σ H2 λps H3=>Q ((x,y)::ps) H3
abbrev VV:List (V × V)->List (Value × Value)->Prop:=Paired λp q=>RelV p.1 q.1/\RelV p.2 q.2
def M6(X:Cx)(pos:Pos)(keys:List (Option Expr))(values:List Expr)(trs:List (TE × TE)):Prop :=
 ∀ (pins:List (Addr × Obj)) (s:Shared) (σ:St) (H:Hp) (Q:List (V × V)->Hp->Prop),Inv X pins σ H s->HC trs σ H Q →
  wpAny (model X.prog X.w) X.A (evalPairs (pairTrees keys values X.env pos)) (λvs s'=>∃ ps H',Inv X pins σ H' s'/\VV ps vs/\Q ps H') X.xe s
theorem V7{X:Cx}{pos:Pos}:M6 X pos [] [] []:=λpins s σ H Q I h=>pairTrees_nil_walk ⟨[],H,I,.nil,h⟩
theorem M7{X:Cx}{pos:Pos}{k v:Expr}{ks:List (Option Expr)}{vs:List Expr}{tk tv:TE}{trs:List (TE × TE)}(hk:PE X k tk)(hv:PE X v tv)(hr:M6 X pos ks vs trs) :
  M6 X pos (some k::ks) (v::vs) ((tk,tv)::trs):=λpins s σ H Q I h =>
 pairTrees_cons_walk (AM (hk pins s σ H _ I h) λu s1 ⟨x,H1,I1,rx,q1⟩=>AM (hv pins s1 σ H1 _ I1 q1) λw2 s2 ⟨y,H2,I2,ry,q2⟩ =>
  AM (hr pins s2 σ H2 _ I2 q2) λws s3 ⟨ps,H3,I3,rel,q3⟩=>⟨(x,y)::ps,H3,I3,.cons ⟨rx,ry⟩ rel,q3⟩)
def FV(kvs more:List (AN × V)):List (AN × V):=more.foldl (λacc kv=>BT acc kv.1 kv.2) kvs
theorem KV.merge:∀ {more:List (AN × V)} {rs:List (AN × Value)} {kvs:List (AN × V)} {vs:List (AN × Value)},KV more rs->KV kvs vs->KV (FV kvs more) (merged vs rs):=by
 intro more rs kvs vs r
 unfold KV at r
 induction r generalizing kvs vs with
 | nil=>intro q;exact q
 | @cons p q ps qs h t ih =>
  intro r0
  have e:KV (BT kvs p.1 p.2) (stored vs q.1 q.2):=by
   have:=r0.put p.1 h.2
   rw[<-h.1];exact this
  exact ih e
theorem V8:∀ (more kvs:List (AN × V)),(FV kvs more).length<=kvs.length+more.length
 | [],kvs=>by show kvs.length<=kvs.length+0;omega
 | p::r,kvs=>by
  have h1:=V8 r (BT kvs p.1 p.2)
  have h2:=IM kvs p.1 p.2
  show(FV (BT kvs p.1 p.2) r).length<=_
  rw[List.length_cons];omega
theorem V9{P:Program}{w:World}:∀ {kvs:List (AN × V)} {ws:List (Value × Value)},VV (kvs.map λkv=>(kV kv.1,kv.2)) ws->∃ rs,Carries (C4 P w) ws rs/\KV kvs rs
 | [],_,r=>by rw[List.map_nil]at r;cases r;exact⟨[],True.intro,.nil⟩
 | p::kvs,_,r=>by
  rw[List.map_cons]at r
  cases r with
  | @cons a b as bs h t =>
   obtain⟨rs,c,q⟩:=V9 (P:=P) (w:=w) t
   obtain⟨b1,b2⟩:=b
   exact⟨(p.1,b2)::rs,⟨G9 h.1,rfl,c⟩,.cons ⟨rfl,h.2⟩ q⟩
def K4(trs:List (TE × TE)):TE:=λσ H Q=>∀ p,H p=none->HC trs σ (upd H p (.dK [])) λps H2=>H2 p=some (.dK [])/\∃ kvs:List (AN × V),ps=kvs.map (λkv=>(kV kv.1,kv.2))/\kvs.length<=15/\Q (.ref p) (upd H2 p (.dK (FV [] kvs)))
theorem WA{X:Cx}{pos:Pos}{keys:List (Option Expr)}{values:List Expr}{trs:List (TE × TE)}(h:M6 X pos keys values trs)(hall:keys.all (·.isSome)=true)(hl:keys.length=values.length)(h0:keys≠[])
  (h15:keys.length<=15):PE X (.Dict keys values pos) (K4 trs):=by
 intro pins s σ H Q I q
 have hn:=I.hok.fresh (Nat.le_refl s.heap.objs.size)
 have I1:=I.laid (a:=s.heap.objs.size) (o:=.dK []) (h':=s.heap.push { cls:=.type "dict",data:=.dict #[] }) (t':=s.toks) (λ_ _ q=>Heap.get?_push_of_some _ q) (Nat.le_refl _) (V5 s.heap I.big)
 refine wpAny_Dict_walk (knd:=C4 X.prog X.w) hall hl h0 h15 (AM (h pins _ σ _ _ I1 (q _ hn)) λws s2 ⟨ps,H2,I2,rel,e,kvs,ep,lk,q2⟩=> ?_)
 subst ep
 obtain⟨rs,c,rk⟩:=V9 (P:=X.prog) (w:=X.w) rel
 obtain⟨z,hd,vs0,r0,dd⟩:=V2 I2.hok e
 cases r0
 refine⟨rs,c,dd,λh' dd' hs=>⟨.ref s.heap.objs.size,_,?_,rfl,q2⟩⟩
 have hz:(FV [] kvs).length<=sizeLine:=by
  have h1:=V8 kvs []
  rw[List.length_nil]at h1
  rw[sizeLine_eq];omega
 have he:∃ q,h'.get? s.heap.objs.size=some q:=let ⟨q,_,_,hq,_⟩:=dd';⟨q,hq⟩
 exact O0 I2 (by rw[e];exact True.intro) hs he (O1 hz hd (rk.merge .nil) dd')
structure M1(X:Cx)(o:Expr)(m:Str)(apos:Pos)(e:Expr)(cpos:Pos):Prop where
 base:attributeBase o m X.env (eval o X.env)=eval o X.env
 few:((backTo cpos (starEach [e] X.env)).all (λx=> !x.1) && (backToKw cpos (keywordEach [] X.env)).all (λx=>x.1.isSome)
  && decide (([e]:List Expr).length+([]:List Keyword).length+(if([]:List Keyword).isEmpty then 0 else 1)<30))=true
 line:(apos.endLine == cpos.line)=true
 trees:backTo cpos (starEach [e] X.env)=[(false,eval e X.env)]
structure M2(X:Cx)(o:Expr)(m:Str)(apos:Pos)(e f:Expr)(cpos:Pos):Prop where
 base:attributeBase o m X.env (eval o X.env)=eval o X.env
 few:((backTo cpos (starEach [e,f] X.env)).all (λx=> !x.1) && (backToKw cpos (keywordEach [] X.env)).all (λx=>x.1.isSome)
  && decide (([e,f]:List Expr).length+([]:List Keyword).length+(if([]:List Keyword).isEmpty then 0 else 1)<30))=true
 line:(apos.endLine == cpos.line)=true
 trees:backTo cpos (starEach [e,f] X.env)=[(false,eval e X.env),(false,eval f X.env)]
def O2(H:Hp)(a:Addr):Prop:=(∃ kvs,Rd H a (.dK kvs))\/∃ kvs,Rd H a (.dT kvs)
theorem j9{X:Cx}{pins:List (Addr × Obj)}{σ:St}{H:Hp}{s:Shared}{a:Addr}(I:Inv X pins σ H s)(d:O2 H a) :
  s.TypeIs (.ref a) "dict"/\(∀ b,Value.ref a=.ref b->∃ ob,s.heap.get? b=some ob/\ob.dict=none)/\(a == sysModules)=false:=by
 rcases d with⟨kvs,e⟩ | ⟨kvs,e⟩
 ·obtain⟨_,hd,vs,_,dd⟩:=FU I.hok e
  refine⟨dd.typeIs,λb q=> ?_,hd⟩
  cases q
  obtain⟨ob,_,_,h1,h2,_⟩:=dd
  exact⟨ob,h1,h2.2.1⟩
 ·obtain⟨_,hd,xs,_,dd⟩:=HA I.hok e
  refine⟨dd.typeIs,λb q=> ?_,hd⟩
  cases q
  obtain⟨ob,_,_,h1,h2,_⟩:=dd
  exact⟨ob,h1,h2.2.1⟩
section
variable{X:Cx}{pins:List (Addr × Obj)}{σ:St}{H:Hp}{s:Shared}{a:Addr}{y d:V}{u r:Value}{o:Option V}{A:Around}{E:Value->Shared->Prop}
theorem kA{Q:Value->Shared->Prop}(hu:A.units+1<cLine)(I:Inv X pins σ H s)(g:DGet H a y o)(ry:RelV y u)(h:∀ w' s',Inv X pins σ H s'->RelV (o.getD .non) w'->Q w' s') :
  wpAny (model X.prog X.w) A (call (.builtin "dict.get") [.ref a,u]) Q E s:=by
 rcases g with⟨kvs,k,e,ey,l⟩ | ⟨kvs,k,b,e,ey,eb,l⟩
 ·subst ey
  obtain⟨z,hd,vs,rel,dd⟩:=FU I.hok e
  refine call_meetsIn PySem.F.slot_dict_get dd.typeIs PySem.F.entry_dict_get (PySem.F.args_dict_get_2 _ _) (meets_dict_get (C4 X.prog X.w) a (G9 ry) hd) ⟨_,dd.mapOf,h _ _ (I.tok _) ?_⟩
  rw[l]
  exact(rel.val k).getD rfl
 ·subst ey
  cases (show u=Value.ref b from ry)
  obtain⟨z,hd,xs,rel,dd⟩:=HA I.hok e
  refine call_meetsIn PySem.F.slot_dict_get dd.typeIs PySem.F.entry_dict_get (PySem.F.args_dict_get_2 _ _) (meetsH_dict_get (tupleKind (C4 X.prog X.w)) a b hd) ⟨tupleKind_room_in1 hu,k,xs,IN I.hok eb,dd,h _ _ (I.tok _) ?_⟩
  rw[l]
  exact(rel.val k).getD rfl
end
def O3(td ty:TE):TE:=λσ H Q=>td σ H λx H1=>∃ a,x=.ref a/\O2 H1 a/\ty σ H1 λy H2=>∃ o,DGet H2 a y o/\Q (o.getD .non) H2
section
variable{X:Cx}{o e f:Expr}{apos cpos:Pos}{td ty tx:TE}
theorem kB(hu:X.A.units+1<cLine)(ho:PE X o td)(he:PE X e ty)(m:M1 X o "get" apos e cpos):PE X (.Call (.Attribute o "get" apos) [e] [] cpos) (O3 td ty):=by
 intro pins s σ H Q I h
 refine wpAny_Call_method m.base m.few m.line PySem.F.plainAttrs_dict PySem.F.slot_dict_get PySem.F.type_dict_get (AM (ho pins s σ H _ I h) λu s1 ⟨x,H1,I1,rx,a,ex,d,q1⟩=> ?_)
 subst ex
 obtain rfl:u=Value.ref a:=rx
 obtain⟨t1,t2,_⟩:=j9 I1 d
 refine⟨t1,t2,?_⟩
 rw[m.trees]
 refine Calls.callWith_builtin rfl (Calls.evalArgs_plain (Calls.spliced_cons (AM (he pins s1 σ H1 _ I1 q1) λiv s2 ⟨y,H2,I2,ry,ov,g,q2⟩=>Calls.spliced_nil ?_)))
 exact kA hu I2 g ry λw' s3 I3 rw'=>⟨_,H2,I3,rw',q2⟩
end
section
variable{X:Cx}{pins:List (Addr × Obj)}{σ:St}{H:Hp}{s:Shared}{a:Addr}{kvs:List (AN × V)}{A:Around}{E:Value->Shared->Prop}
theorem kC{Q:Value->Shared->Prop}(I:Inv X pins σ H s)(e:Rd H a (.dK kvs))(h:∀ p s',H p=none->Inv X pins σ (upd H p (.dK kvs)) s'->Q (.ref p) s'):wpAny (model X.prog X.w) A (call (.type "dict") [.ref a]) Q E s:=by
 obtain⟨z,hd,vs,rel,dd⟩:=FU I.hok e
 refine kt_call_dict hd dd (by rw[<-rel.length];exact z) λh' dd' hs=> ?_
 refine h _ _ (I.hok.fresh (Nat.le_refl _)) (I.laid (a:=s.heap.objs.size) (o:=.dK kvs) (t':=s.toks) (λb q hq=> ?_) (Nat.le_refl _) (O1 z (beq_eq_false_iff_ne.mpr (Ne.symm (Nat.ne_of_lt I.big))) rel dd'))
 exact(hs.2 b (Nat.ne_of_lt (Heap.lt_size hq))).trans (Heap.get?_push_of_some _ hq)
end
section
variable{X:Cx}{pins:List (Addr × Obj)}{σ:St}{H:Hp}{s:Shared}{a:Addr}{y:V}{u:Value}{A:Around}{E:Value->Shared->Prop}
end
end L2
namespace Att
open PySem PySem.W PySem.Calls PyProof.Rows
theorem kD{P:Params}{h:Heap}:∀ (ns:List Int) (vs:List Value),WellAll P h vs (ns.map WData.int)->IntsAre vs ns:=by
 intro ns
 induction ns with
 | nil =>
  intro vs w
  rw[List.map_nil]at w
  cases w
  exact .nil
 | cons n ns ih =>
  intro vs w
  rw[List.map_cons]at w
  cases w with
  | cons a b =>
   cases a
   exact .cons _ _ (ih _ b)
theorem kE{l:OpenLaw}{n:Nat}(hn:l.most=some n){P:Params}{h:Heap}{args:List WData}{vals:List Value}
  (hpre:l.row.toRowW.claim.pre args=true) (hwl:WellAll P h vals args) :
  ∃ a vs ns,vals=[Value.ref a]/\args=[WData.list (ns.map WData.int)]/\h.get? a=some { cls:=.type "list",data:=.seq vs.toArray }/\IntsAre vs ns/\ns.length<=n:=by
 have hsh:WShape.hasAll [] args [.list .int]=true:=(pre_splitW hpre).1
 have hc:l.pre.holds [] { args:=args }=true:=(pre_splitW hpre).2
 obtain⟨d,r,rfl,h1,h2⟩:=hasAllW_cons hsh
 obtain rfl:=hasAllW_nil h2
 obtain⟨xs,rfl,h3⟩:=hasW_list h1
 obtain⟨ns,rfl⟩:=items_int h3
 have hlen:ns.length<=n:=by
  unfold OpenLaw.pre at hc
  have h4:(WTm.not (.lt (.lit (.int (n:Int))) (.len (.arg 0)))).holds [] { args:=[.list (ns.map .int)] }=true:=by
   have h4:=(holds_andW hc).1
   rw[hn]at h4
   exact h4
  have h5:=condW_of h4 (w_not (w_lt w_lit (w_len_list (w_arg rfl))))
  rw[List.length_map]at h5
  refine Nat.le_of_not_lt λq=> ?_
  have q':(n:Int)<((ns.length:Nat):Int):=by omega
  first
   | (rw[decide_eq_true q']at h5;exact absurd h5 (by decide))
   | (simp at h5;omega)
 cases hwl with
 | cons w1 w2 =>
  cases w2
  cases w1 with
  | list ho hall=>exact⟨_,_,ns,rfl,rfl,ho,kD ns _ hall,hlen⟩
theorem kF(l:OpenLaw)(args:List WData):l.row.toRowW.claim.post args (.bool true) args=true :=
 postW_of (r:=l.row.toRowW) (X:=(true == true))
  (show WShape.has [] (.bool true) .bool=true by first | rfl | decide | simp[WShape.has,WShape.arms,WShape.armsAll])
  (show(WTm.eq .res (.lit (.bool true))).value [] { args:=args,res:=some (.bool true),after:=args }=some (.bool (true == true))from w_eq_bool (w_res rfl) w_lit) rfl
theorem attach_call{l:OpenLaw}{n:Nat}{q:Program}{loose:List Str}{XP:(Str->Option Value)->Heap->Prop}{YP:World->Heap->Prop}{d:DefRec}
  (hn:l.most=some n) (hdf:d.params.defaults=[])
  (call:∀ (w:World) (s₀ s₁:Shared) (mg mb:Str->Option Value) (fa:Addr) (o:Obj) (pm cd doc:Value) (a:Addr) (vs:List Value) (ns:List Int),
   Ground q loose [] XP w s₀ mg mb s₁.heap->YP w s₁.heap →
   s₁.heap.get? fa=some o->o.data=.func (docDef d.name d.params d.body d.scope pm cd doc)->s₁.heap.CodeRec cd d.name->mg d.name=some (.ref fa) →
   s₁.heap.get? a=some { cls:=.type "list",data:=.seq vs.toArray }->IntsAre vs ns->ns.length<=n->s₁.gens= #[] →
   codeAny (model l.prog w) callerA (.call (.ref fa) ⟨[.ref a],[]⟩) (λr s'=>r=.ok (.ret (.bool true))/\OldK s₁.heap s'.heap/\s'.os=s₁.os/\AllBare s'.gens) s₁) :
  WalkO q loose XP YP l.row.toRowW d [] (λf vs=>PySem.call f vs):=by
 intro w s₀ s₁ mg mb G Y fa o pm cd doc dV kV ho hd hcd hD hmg hg args vals as hpre hlay hrd hwl hlo
 obtain rfl:dV=.none:=Dflts.none hD hdf
 obtain rfl:kV=.none:=Dflts.noKw hD
 obtain⟨a,vs,ns,rfl,rfl,hobj,hints,hlen⟩:=kE hn hpre hwl
 refine enter_call (codeAny_mono (call w s₀ s₁ mg mb fa o pm cd doc a vs ns G Y ho (fd_plain hd) hcd hmg hobj hints hlen hg) λr s' hq=> ?_)
 obtain⟨rfl,h2,h3,h4⟩:=hq
 exact⟨.inl ⟨.bool true,.bool true,[],rfl,λ_=>rfl,.bool true,kF l _,λ_=>⟨List.Pairwise.nil,λ_ hm=>(nomatch hm)⟩⟩,h2,h3,h4⟩
section
variable{prog:Program}{w:World}{A:Around}{E:Value->Shared->Prop}{s:Shared}{K:Frag}
def Lc(h:Heap)(L d:Addr):List (Addr × Obj):=(List.range h.objs.size).filterMap λa=>if a=L\/a=d then none else(h.get? a).map λo=>(a,o)
end
end Att
namespace L2
theorem O4:∀ {vs:List Value} {ns:List Int},IntsAre vs ns->Vals (ns.map V.int) vs
 | _,_,.nil=>.nil
 | _,_,.cons n t h=>.cons ⟨t,rfl⟩ (O4 h)
def O5(H:Hp):Prop:=∀ b,H b=none\/∃ o xs,H b=some (.frz o (.lst xs))
theorem kG {P:Program} {w:World} {K:W.Frag} {mg mb:Str->Option Value} {CX:D3} {k:Nat} {fa a:Addr} {fd:FuncData} {x:Str} {sp:Sp} {s₁:Shared} {vs:List Value} {ns:List Int}
    (KX:K.In s₁.heap) (hns:s₁.heap.Ns mainGlobals mg) (hb:s₁.heap.Ns builtinsNs mb) (hbb:∀ x:Str,x≠"__name__"->mb x=bootBuiltins x) (hlim:s₁.heap.NoLimit) (hg:s₁.gens= #[])
    (ha:s₁.heap.get? a=some { cls:=.type "list",data:=.seq vs.toArray }) (hi:IntsAre vs ns) (hl:ns.length<=sizeLine) (hr:Room k callerA)
    (F:∀ base:Heap,K.In base->base.Ns mainGlobals mg->FnOk P w K mg base CX k fa fd [x] sp) (hbind:∀ (s:Shared) (u:Value),BindsTo s fd ⟨[u],[]⟩ [(x,u)])
    (hsp:∀ H:Hp,O5 H->SqL K H a (ns.map V.int)->sp [.ref a] H (λv _=>v=.bl true) λ_ _ _=>False)
    (hCX:∀ H e s',CX [] H s₁ (λ_ _ _=>False) e s'->False) :
    codeAny (model P w) callerA (.call (.ref fa) ⟨[.ref a],[]⟩) (λr s'=>r=.ok (.ret (.bool true))/\OldK s₁.heap s'.heap/\s'.os=s₁.os/\AllBare s'.gens) s₁:=by
  have rv:=O4 hi
  have lenV:=hi.length
  have core:∀ H:Hp,O5 H->SqL K H a (ns.map V.int)->HOk P w H s₁.heap->(∀ b,H b≠none->b=a)->(H a≠none->K.lookup a=none) →
      codeAny (model P w) callerA (.call (.ref fa) ⟨[.ref a],[]⟩) (λr s'=>r=.ok (.ret (.bool true))/\OldK s₁.heap s'.heap/\s'.os=s₁.os/\AllBare s'.gens) s₁:=by
    intro H hO hS hok hA hK
    have base_of:∀ {b:Addr} {o:Obj},s₁.heap.get? b=some o->H b=none->(FM s₁.heap H).get? b=some o:=λe n=>gC e n
    have noA:∀ {b:Addr} {o:Obj} {es:Array DictEntry} {ep:Nat},s₁.heap.get? b=some o->o.data=.dict es ep->H b=none:=λ{b o es ep} e d=>by
      cases q:H b with
      | none=>rfl
      | some u =>
        have e':b=a:=hA b (by rw[q];simp)
        subst e'
        rw[ha]at e;cases e
        have d':Data.seq vs.toArray _=Data.dict es ep:=d
        cases d'
    have nsK:∀ {b:Addr} {m:Str->Option Value},s₁.heap.Ns b m->(FM s₁.heap H).Ns b m:=λ{b m} ⟨o,es,ep,e,d,r⟩=>⟨o,es,ep,base_of e (noA e d),d,r⟩
    have hKb:K.In (FM s₁.heap H):=λb o e=>base_of (KX b o e) (by
      cases q:H b with
      | none=>rfl
      | some u =>
        have e':b=a:=hA b (by rw[q];simp)
        subst e'
        rw[hK (by rw[q];simp)]at e;cases e)
    have hM:Mod K mg (FM s₁.heap H):=⟨hKb,nsK hns,⟨mb,nsK hb,hbb⟩,let ⟨mc,h1,h2⟩:=hlim;⟨mc,nsK h1,h2⟩⟩
    have e0:Env0 P w K mg (FM s₁.heap H) callerA [] s₁ H:=⟨rfl,hM,λb o e=>gD e,Nat.le_of_eq (gA _ _),trivial,λb hb=>absurd (show b∈([]:List Addr)from hb) (by simp),hok,.of_eq hg⟩
    refine codeAny_mono ((F _ hKb (nsK hns)).run callerA [] s₁ H ⟨[.ref a],[]⟩ [.ref a] [.ref a] _ _ hr e0 (hbind s₁ (.ref a)) (.cons rfl .nil) (hsp H hO hS)) λr s' h=> ?_
    cases r with
    | error e=>exact(hCX H e s' h).elim
    | ok fl =>
      cases fl with
      | next=>exact False.elim h
      | brk=>exact False.elim h
      | cont=>exact False.elim h
      | ret u =>
        obtain⟨v,H',os,bare,un,hok',r',q⟩:=h
        have q':v=.bl true:=q
        subst q'
        obtain rfl:u=Value.bool true:=r'
        refine⟨rfl,OldK.of_keep λb o e=> ?_,os,bare⟩
        cases q:H b with
        | none=>exact un.keep b o e q (by intro z;exact absurd (show b∈([]:List Addr)from z) (by simp)) (by simp)
        | some u =>
          rcases hO b with z | ⟨ob,xs,z⟩
          ·rw[q]at z;cases z
          · have z2:=un.frzs b ob _ z
            obtain⟨e1,_⟩:=hok b _ z
            obtain⟨e2,_⟩:=hok' b _ z2
            rw[e]at e1;cases e1
            exact e2
  cases hk:K.lookup a with
  | some o =>
    have e:=KX a o hk
    rw[ha]at e
    cases e
    refine core (λ_=>none) (λ_=>.inl rfl) (.inr ⟨_,vs.toArray,_,hk,rfl,rfl,rfl,by rw[List.size_toArray,lenV];exact hl,by simpa using rv⟩) (λb u z=>by have z':(none:Option HO)=some u:=z;cases z') (λb z=>absurd rfl z) λz=>absurd rfl z
  | none =>
    refine core (λb=>if b=a then some (.frz { cls:=.type "list",data:=.seq vs.toArray } (.lst (ns.map V.int)))else none) (λb=> ?_) (.inl (.inr ⟨{ cls:=.type "list",data:=.seq vs.toArray },if_pos rfl⟩)) (λb u z=> ?_) (λb z=> ?_) λ_=>hk
    · by_cases hb:b=a
      ·exact .inr ⟨_,_,if_pos hb⟩
      ·exact .inl (if_neg hb)
    · by_cases hb:b=a
      · have z':=(if_pos hb).symm.trans z
        cases z'
        subst hb
        exact⟨ha,by rw[List.length_map];exact hl,vs,_,rv,ha⟩
      · have z':=(if_neg hb).symm.trans z
        cases z'
    · by_cases hb:b=a
      ·exact hb
      ·exact absurd (if_neg hb) z
end L2
namespace L2
abbrev Ld{K:W.Frag}{h:Heap}(_:K.In h):W.Frag:=K
theorem walk_of{l:W.OpenLaw}{n k:Nat}{q:Program}{loose:List Str}{XP:(Str->Option Value)->Heap->Prop}{YP:World->Heap->Prop}{d:DefRec}{K:Params->W.Frag}{CX:World->D3}{sp:World->Sp}{x:Str}
  (hn:l.most=some n) (hn2:n<=sizeLine) (hdf:d.params.defaults=[]) (hr:Room k callerA)
  (hY:∀ (w:World) (h:Heap),YP w h->(K w.params).In h)
  (F:∀ (w:World) (mg:Str->Option Value) (fa:Addr) (h:Heap),(K w.params).In h->h.Ns mainGlobals mg->mg d.name=some (.ref fa) →
   ∃ fd:FuncData,(∀ (s:Shared) (u:Value),BindsTo s fd ⟨[u],[]⟩ [(x,u)]) ∧
    ∀ base:Heap,(K w.params).In base->base.Ns mainGlobals mg->FnOk l.prog w (K w.params) mg base (CX w) k fa fd [x] (sp w))
  (hsp:∀ (w:World) (H:Hp) (a:Addr) (ns:List Int),ns.length<=n->O5 H->SqL (K w.params) H a (ns.map V.int)->sp w [.ref a] H (λv _=>v=.bl true) λ_ _ _=>False)
  (hCX:∀ (w:World) (H:Hp) (s:Shared) (e:Value) (s':Shared),CX w [] H s (λ_ _ _=>False) e s'->False) :
  W.WalkO q loose XP YP l.row.toRowW d [] (λf vs=>PySem.call f vs):=by
 refine Att.attach_call hn hdf λw s₀ s₁ mg mb fa o pm cd doc a vs ns G Y ho hd hcd hmg hobj hints hlen hg=> ?_
 have KX:=hY w _ Y
 obtain⟨fd,hb,hF⟩:=F w mg fa _ KX G.T.g hmg
 exact kG KX G.T.g G.T.b G.T.builtins G.T.nolimit hg hobj hints (Nat.le_trans hlen hn2) hr hF hb (λH hO hS=>hsp w H a ns hlen hO hS) λH e s'=>hCX w H s₁ e s'
end L2
namespace L2
def CN(s:Stmt)(j:Nat):Stmt:=match s with
 | .ClassDef _ _ _ body _ _ _ _ _ _ _=>body.getD j (.Pass ⟨0,0,0,0⟩)
 | _=>.Pass ⟨0,0,0,0⟩
def BC(s:Stmt):Arguments:=match s with
 | .FunctionDef _ a _ _ _ _ _ _ _ _=>a
 | _=>{ posonlyargs:=[],args:=[],vararg:=none,kwonlyargs:=[],kw_defaults:=[],kwarg:=none,defaults:=[] }
def A8(s:Stmt):List Stmt:=match s with
 | .FunctionDef _ _ b _ _ _ _ _ _ _=>b
 | _=>[]
def AO(s:Stmt):Scope:=match s with
 | .FunctionDef _ _ _ _ _ _ sc _ _ _=>sc
 | _=>{ kind:=.function,names:=[],isGenerator:=false,isCoroutine:=false }
abbrev WB:D3:=λ_ _ _ _ _ _=>False
abbrev E0:XK:=λ_ _ _=>False
structure Fun(K:W.Frag)(x qual:Str)(st:Stmt)(f:Addr)(fd:FuncData):Prop where
 ex:∃ (oc:Value) (od:Option Addr) (kV doc pm:Value) (an:Option Addr) (cdv ct:Value) (osl:Array (Option Value)),
  fd=W.fnOf x qual (BC st) (A8 st) (AO st) .none kV doc pm an cdv ct/\K.lookup f=some ⟨oc,od,.func fd,osl⟩/\W.codeIn K cdv qual=true
 kp:W.keepIn K (.ref f)=true
section
variable{P:Program}{w:World}{K:W.Frag}{mg:Str->Option Value}{base:Heap}
theorem Fun.ok{x qual:Str}{st:Stmt}{f:Addr}{fd:FuncData}{N ps:List Str}{k:Nat}{sp:Sp}(F:Fun K x qual st f fd)(S:FnScope N ps (AO st))(len:∀ vs H Q E,sp vs H Q E->vs.length=ps.length)
  (hbody:∀ (cdv:Value) (A:Around) (outer:List Env) (s:Shared) (H:Hp) (vs:List V) (Q:VK) (E:XK),Room k (A.deeper (envOfC qual (AO st) s.heap.objs.size f cdv))->sp vs H Q E →
   ∃ t,PSs (FB WB P w K mg base N qual (AO st) f cdv A outer s H E).nox (A8 st) t/\t { nx:=λ_ H'=>Q .non H',rt:=Q } (A5 N vs) H):FnOk P w K mg base WB (k+1) f fd ps sp:=by
 obtain⟨oc,od,kV,doc,pm,an,cdv,ct,osl,rfl,lk,hcd⟩:=F.ex
 refine VA lk hcd S len λA outer s H vs Q E hr hsp=> ?_
 obtain⟨t,h,q⟩:=hbody cdv A outer s H vs Q E hr hsp
 exact⟨t,h.nox,q⟩
theorem Fun.binds{x qual:Str}{st:Stmt}{f:Addr}{fd:FuncData}{ps:List Str}(F:Fun K x qual st f fd)
  (h:∀ (kV doc pm:Value) (an:Option Addr) (cdv ct:Value) (us:List Value),us.length=ps.length->bindArgs (W.fnOf x qual (BC st) (A8 st) (AO st) .none kV doc pm an cdv ct) ⟨us,[]⟩=pure (ps.zip us)):Binds K fd ps []:=by
 obtain⟨oc,od,kV,doc,pm,an,cdv,ct,osl,rfl,lk,hcd⟩:=F.ex
 exact .all (h kV doc pm an cdv ct)
theorem BL{x qual:Str}{st:Stmt}{f:Addr}{oc:Value}{od an:Option Addr}{osl:Array (Option Value)}{kV doc pm cdv ct:Value}(l:K.lookup f=some ⟨oc,od,.func (W.fnOf x qual (BC st) (A8 st) (AO st) .none kV doc pm an cdv ct),osl⟩)
  (c:W.codeIn K cdv qual=true) (k:W.keepIn K (.ref f)=true):Fun K x qual st f (W.fnOf x qual (BC st) (A8 st) (AO st) .none kV doc pm an cdv ct):=⟨⟨oc,od,kV,doc,pm,an,cdv,ct,osl,rfl,l,c⟩,k⟩
end
theorem CF{A:Around}{k:Nat}(hr:Room k A):A.units+1<cLine:=Nat.lt_of_le_of_lt (Nat.add_le_add_left (by decide:1<=64) _) hr.units
section
variable{X:Cx}
theorem kH:CallR X (.builtin "len") (λxs H Q=>∃ a kvs,xs=[V.ref a]/\H a=some (.dK kvs)/\Q (.int kvs.length) H):=by
 intro pins s σ H xs us Q I r h
 obtain⟨a,kvs,rfl,ha,q⟩:=h
 obtain⟨u,rfl,ru⟩:=FO r
 cases ru
 exact j5 I (.inl ha) λt s' I'=>⟨.int kvs.length,H,I',⟨t,rfl⟩,q⟩
end
def Same(H H':Hp):Prop:=∀ b o,H b=some o->H' b=some o
theorem Same.refl(H:Hp):Same H H:=λ_ _ h=>h
theorem Same.trans{H H1 H2:Hp}(a:Same H H1)(b:Same H1 H2):Same H H2:=λc o h=>b c o (a c o h)
theorem Same.free{H H':Hp}(e:Same H H'){l:Addr}(h:H' l=Option.none):H l=Option.none:=by
 cases q:H l with
 | none=>rfl
 | some o =>
  rw[e l o q]at h
  cases h
theorem Same.seq{K:W.Frag}{H H':Hp}{a:Addr}{xs:List V}(e:Same H H')(h:SqL K H a xs):SqL K H' a xs:=by
 rcases h with(h | ⟨o,h⟩) | h
 ·exact .inl (.inl (e _ _ h))
 ·exact .inl (.inr ⟨o,e _ _ h⟩)
 ·exact .inr h
section
variable{κ :Type}[DecidableEq κ]
theorem kI{kvs:List (κ × V)}{k: κ}(h:AZ kvs k=none):¬ k∈kvs.map (·.1):=by
 intro m
 obtain⟨p,hp,e⟩:=List.mem_map.mp m
 have q:(kvs.any λkv=>decide (kv.1=k))=true:=List.any_eq_true.mpr ⟨p,hp,decide_eq_true e⟩
 rw[EV,h]at q
 exact absurd q (by simp)
theorem WC:∀ {l:List κ} {k: κ},l.Nodup->¬ k∈l->(l++[k]).Nodup
 | [],k,_,_=>by simp
 | a::r,k,h,hk=>by
  obtain⟨h1,h2⟩:=List.nodup_cons.mp h
  show(a::(r++[k])).Nodup
  refine List.nodup_cons.mpr ⟨λm=> ?_,WC h2 λm=>hk (List.mem_cons.mpr (Or.inr m))⟩
  rcases List.mem_append.mp m with q | q
  ·exact h1 q
  ·exact hk (List.mem_cons.mpr (Or.inl (List.mem_singleton.mp q).symm))
theorem kJ{kvs:List (κ × V)}{k: κ}(v:V)(hn:(kvs.map (·.1)).Nodup)(h:AZ kvs k=none):((BT kvs k v).map (·.1)).Nodup:=by
 rw[VX v h,List.map_append]
 exact WC hn (kI h)
end
end L2
namespace L2
theorem O6{env:Env}:∀ (names:List (Str × NameKind)) (cs:List (Str × Addr)),
  (∀ x∈names,x.2=.free->∃ c,env.cells.lookup x.1=some c)->(∀ x c,cs.lookup x=some c->env.cells.lookup x=some c) →
  ∃ cl,(forIn names cs λx r=>(if(x.2 == NameKind.free)=true then do let a ← cellOf env x.1;pure (ForInStep.yield ((x.1,a)::r))else pure (ForInStep.yield r):Sem (ForInStep (List (Str × Addr)))))=pure cl ∧
   (∀ x c,cl.lookup x=some c->env.cells.lookup x=some c)/\(∀ x,(cs.lookup x).isSome=true->(cl.lookup x).isSome=true) ∧
   ∀ x∈names,x.2=.free->(cl.lookup x.1).isSome=true
 | [],cs,_,h=>⟨cs,rfl,h,λ_ z=>z,λ_ z=>nomatch z⟩
 | (n,k)::r,cs,hf,h=>by
  by_cases hk:k=.free
  ·subst hk
   obtain⟨c,hc⟩:=hf (n,.free) List.mem_cons_self rfl
   obtain⟨cl,e,h1,h2,h3⟩:=O6 r ((n,c)::cs) (λx hx=>hf x (List.mem_cons_of_mem _ hx)) (λx c' hx=>by
    by_cases hxn:x=n
    ·subst hxn;simp only[List.lookup_cons,beq_self_eq_true]at hx;cases hx;exact hc
    ·have:(x == n)=false:=beq_eq_false_iff_ne.mpr hxn
     simp only[List.lookup_cons,this]at hx;exact h x c' hx)
   refine⟨cl,?_,h1,λx hx=>h2 x ?_,λx hx hxf=> ?_⟩
   ·rw[List.forIn_cons]
    show((if(NameKind.free == NameKind.free)=true then _ else _) >>= _)=_
    rw[if_pos (show(NameKind.free == NameKind.free)=true from rfl)]
    unfold cellOf
    show(((match env.cells.lookup n with | some a=>pure a | none=>_) >>= _) >>= _)=_
    rw[hc]
    exact e
   ·by_cases hxn:x=n
    ·subst hxn;simp
    ·have:(x == n)=false:=beq_eq_false_iff_ne.mpr hxn
     simp only[List.lookup_cons,this];exact hx
   ·rcases List.mem_cons.mp hx with rfl | hx
    ·exact h2 n (by simp)
    ·exact h3 x hx hxf
  ·obtain⟨cl,e,h1,h2,h3⟩:=O6 r cs (λx hx=>hf x (List.mem_cons_of_mem _ hx)) h
   refine⟨cl,?_,h1,h2,λx hx hxf=> ?_⟩
   ·rw[List.forIn_cons]
    have hb:(k == NameKind.free)=false:=by simpa using hk
    show((if(k == NameKind.free)=true then _ else _) >>= _)=_
    rw[if_neg (by simp[hb])]
    exact e
   ·rcases List.mem_cons.mp hx with rfl | hx
    ·exact absurd hxf hk
    ·exact h3 x hx hxf
theorem WD{env:Env}{scope:Scope}(hf:∀ x∈scope.names,x.2=.free->∃ c,env.cells.lookup x.1=some c) :
  ∃ cl,closureFor scope env=pure cl/\(∀ x c,cl.lookup x=some c->env.cells.lookup x=some c)/\∀ x∈scope.names,x.2=.free->(cl.lookup x.1).isSome=true:=by
 obtain⟨cl,e,h1,_,h3⟩:=O6 (env:=env) scope.names [] hf (λx c h=>by simp at h)
 refine⟨cl,?_,h1,h3⟩
 unfold closureFor
 show(forIn scope.names ([]:List (Str × Addr)) _ >>= _)=_
 have:(forIn scope.names ([]:List (Str × Addr)) λx r=>(if(x.2 == NameKind.free)=true then do let a ← cellOf env x.1;pure (ForInStep.yield ((x.1,a)::r))else pure (ForInStep.yield r):Sem (ForInStep (List (Str × Addr))))) >>=(λr=>(pure r:Sem _))=(pure cl:Sem _):=by rw[e];rfl
 exact this
theorem WE{env:Env}:∀ {names:List (Str × NameKind)} {x:Str},names.lookup x=some .free →
  (names.map λ(n,k)=>if(k == NameKind.free && env.scope.kind == .function && env.kindOf n == some .cell)then(n,NameKind.cell)else(n,k)).lookup x=some .cell ∨
  (names.map λ(n,k)=>if(k == NameKind.free && env.scope.kind == .function && env.kindOf n == some .cell)then(n,NameKind.cell)else(n,k)).lookup x=some .free
 | [],_,h=>by simp at h
 | (n,k)::r,x,h=>by
  by_cases hx:x=n
  ·subst hx
   simp only[List.lookup_cons,beq_self_eq_true]at h
   cases h
   show List.lookup x ((if _ then(x,NameKind.cell)else(x,NameKind.free))::_)=_\/List.lookup x ((if _ then(x,NameKind.cell)else(x,NameKind.free))::_)=_
   split
   ·exact .inl (by simp)
   ·exact .inr (by simp)
  ·have hb:(x == n)=false:=beq_eq_false_iff_ne.mpr hx
   simp only[List.lookup_cons,hb]at h
   have ih:=WE (env:=env) h
   show List.lookup x ((if _ then(n,NameKind.cell)else(n,k))::_)=_\/List.lookup x ((if _ then(n,NameKind.cell)else(n,k))::_)=_
   split<;>(simp only[List.lookup_cons,hb];exact ih)
theorem WF{env:Env}:∀ {names:List (Str × NameKind)} {x:Str},
  ((names.map λ(n,k)=>if(k == NameKind.free && env.scope.kind == .function && env.kindOf n == some .cell)then(n,NameKind.cell)else(n,k)).lookup x=some .cell ∨
  (names.map λ(n,k)=>if(k == NameKind.free && env.scope.kind == .function && env.kindOf n == some .cell)then(n,NameKind.cell)else(n,k)).lookup x=some .free)->(x,NameKind.free)∈names\/(x,NameKind.cell)∈names
 | [],_,h=>by simp at h
 | (n,k)::r,x,h=>by
  by_cases hx:x=n
  ·subst hx
   have h:List.lookup x ((if(k == NameKind.free && env.scope.kind == .function && env.kindOf x == some .cell)=true then(x,NameKind.cell)else(x,k))::_)=some .cell\/List.lookup x ((if(k == NameKind.free && env.scope.kind == .function && env.kindOf x == some .cell)=true then(x,NameKind.cell)else(x,k))::_)=some .free:=h
   split at h
   ·rename_i hc
    rw[Bool.and_eq_true,Bool.and_eq_true]at hc
    have:k=.free:=by simpa using hc.1.1
    subst this
    exact .inl List.mem_cons_self
   ·simp only[List.lookup_cons,beq_self_eq_true]at h
    rcases h with h | h
    ·cases h;exact .inr List.mem_cons_self
    ·cases h;exact .inl List.mem_cons_self
  ·have hb:(x == n)=false:=beq_eq_false_iff_ne.mpr hx
   have h:List.lookup x ((if(k == NameKind.free && env.scope.kind == .function && env.kindOf n == some .cell)=true then(n,NameKind.cell)else(n,k))::_)=some .cell\/List.lookup x ((if(k == NameKind.free && env.scope.kind == .function && env.kindOf n == some .cell)=true then(n,NameKind.cell)else(n,k))::_)=some .free:=h
   have h':=h
   split at h'
   all_goals
    simp only[List.lookup_cons,hb]at h'
    exact(WF h').imp (List.mem_cons_of_mem _) (List.mem_cons_of_mem _)
theorem DM{a b:Addr}{n:Nat}(h:a<n)(h2:n<=b):a≠b:=Nat.ne_of_lt (Nat.lt_of_lt_of_le h h2)
def Cx.block(X:Cx)(pins:List (Addr × Obj))(s:Shared)(H:Hp)(Nc:List Str)(scope:Scope)(cl:List (Str × Addr))(C:Addr)(fp:List Addr):Cx where
 prog:=X.prog
 w:=X.w
 K:=X.K
 mg:=X.mg
 base:=X.base
 A:=X.A
 N:=Nc
 s₀:=s
 H₀:=H
 env:=compEnvC scope cl C X.env
 outer:=X.stack
 stack:=X.stack
 ex:=fp
 fn:=λ_=>false
 calm:=X.calm
 pn:=X.pn++pins
 xe:=λ_ _=>False
structure IQ(X:Cx)(scope:Scope)(tn cn:List Str)(cap:List Nat):Prop where
 kind:scope.kind=.function
 nocell:∀ y∈scope.names,y.2≠.cell
 names:∀ y∈scope.names,y.2=.local->scope.names.lookup y.1=some .local
 free:∀ y∈scope.names,y.2=.free->X.env.kindOf y.1=some .cell\/X.env.kindOf y.1=some .free
 drawn:∀ x∈cn,scope.names.lookup x=some .free
 caps:cap.map (λi=>X.N[i]?)=cn.map some
def GQ(k:Nat)(cap:List Nat)(σ:St):St:=List.replicate k none++cap.map λi=>(σ[i]?).join
theorem HOk.track{P:Program}{w:World}{H:Hp}{h:Heap}{a:Addr}{o:HO}(x:HOk P w H h)(hn:H a=none)(new:ObjOk P w (upd H a o) h a o):HOk P w (upd H a o) h:=λb u e=>by
 by_cases hb:b=a
 ·subst hb;rw[AK]at e;cases e;exact new
 ·rw[AI hb]at e
  refine(x b u e).stay (λ_ _ _ q=>q) (λc q=> ?_) λc xs q=> ?_
  ·rw[AI (AS q hn)];exact q
  ·rw[AI (AS q hn)];exact q
section
variable{X:Cx}{pins:List (Addr × Obj)}{σ:St}{H:Hp}{s:Shared}
theorem Inv.pinlt(I:Inv X pins σ H s){p:Addr × Obj}(hp:p∈X.pn++pins):p.1<s.heap.objs.size:=Heap.lt_size (I.pin p hp).1
theorem Inv.stkne(I:Inv X pins σ H s){b:Addr}(h1:b≠X.env.locals)(h2:b∉X.fs):b∉CV X.stack:=λz=>(List.mem_cons.mp (I.stkSub b z)).elim h1 h2
theorem Inv.stklt(I:Inv X pins σ H s){b:Addr}(h:b∈CV X.stack):b<s.heap.objs.size:=by
 obtain⟨_,o,ho,_⟩:=I.stack.mem h
 exact Heap.lt_size ho
theorem Inv.block{scope:Scope}{tn cn:List Str}{cap:List Nat}{cl:List (Str × Addr)}{C:Addr}{fp:List Addr}{pins':List (Addr × Obj)}{s1:Shared}(I:Inv X pins σ H s)(S:IQ X scope tn cn cap)
  (hcl:∀ x c,cl.lookup x=some c->X.env.cells.lookup x=some c) (hcl2:∀ x∈scope.names,x.2=.free->(cl.lookup x.1).isSome=true)
  (hf:∀ b∈fp,FpOk X pins H b) (hfl:∀ b∈fp,b<s.heap.objs.size) (hC:s.heap.objs.size<=C) (k:∀ b o,s.heap.get? b=some o->s1.heap.get? b=some o)
  (hos:s1.os=s.os) (hg:s1.gens=s.gens) (hns:∃ m,s1.heap.Ns C m)
  (hp:∀ p∈pins',s1.heap.get? p.1=some p.2/\H p.1=none/\p.1≠C/\p.1∉CV X.stack/\∀ v,p.2.data≠.cell v) :
  Inv (X.block pins s H (tn++cn) scope cl C fp) pins' (GQ tn.length cap σ) H s1:=by
 have ok:(X.block pins s H (tn++cn) scope cl C fp).Ok:=by
  refine⟨I.ok.mod,S.kind,I.ok.glob,I.ok.blt,hC,λx y c h1 h2=>I.ok.inj x y c (hcl x c h1) (hcl y c h2),λx hx=> ?_,λx c z _=>(by cases z),I.ok.hd,I.ok.frames,.inl rfl,λb hb=>⟨?_,λx c e=>(hf b hb).2.2.2.2.1 x c (hcl x c e)⟩,I.bs,Nat.le_trans I.ok.bsz I.sz,λb o e hb=> ?_,λb hb=>I.stkne (hf b hb).2.1 (hf b hb).2.2.1,I.stack,I.stkFree⟩
  ·rcases WF (env:=X.env) hx with z | z
   ·exact Option.isSome_iff_exists.mp (hcl2 _ z rfl)
   ·exact absurd rfl (S.nocell _ z)
  ·exact Nat.ne_of_lt (Nat.lt_of_lt_of_le (hfl b hb) hC)
  ·rcases(hf b hb).2.2.2.1 with z | z
   ·exact I.ok.noex b o e z
   ·have h1:b<X.base.objs.size:=Heap.lt_size e
    exact absurd (Nat.lt_of_lt_of_le h1 (Nat.le_trans I.ok.bsz z)) (Nat.lt_irrefl _)
 refine⟨ok,hos,by rw[hg];exact I.bare,Un.kept k,?_,λx c e=> ?_,I.hok.fresh hC,λx c e=>I.freeC x c (hcl x c e),λp hp'=> ?_,I.hok.kept k,?_⟩
 ·obtain⟨m,hm⟩:=hns
  refine⟨m,hm,λi x v h1 h2 h3=> ?_⟩
  have hi:tn.length<=i:=by
   rcases Nat.lt_or_ge i tn.length with z | z
   ·unfold GQ at h2
    rw[List.getElem?_append_left (by simpa using z),List.getElem?_replicate]at h2
    split at h2<;>cases h2
   ·exact z
  unfold GQ at h2
  rw[List.getElem?_append_right (by simpa using hi),List.length_replicate,List.getElem?_map]at h2
  have h1':cn[i - tn.length]? =some x:=by
   have:(tn++cn)[i]? =some x:=h1
   rwa [List.getElem?_append_right hi]at this
  cases hq:cap[i - tn.length]? with
  | none=>rw[hq]at h2;cases h2
  | some j =>
   rw[hq]at h2
   have hj:X.N[j]? =some x:=by
    have:=congrArg (λl=>l[i - tn.length]?) S.caps
    simp only[List.getElem?_map,hq,h1',Option.map_some]at this
    exact Option.some.inj this
   have hv:σ[j]? =some (some v):=by
    cases hs:σ[j]? with
    | none=>simp[hs]at h2
    | some y=>simp only[Option.map_some,hs,Option.join_some]at h2;cases h2;rfl
   have hxf:(x,NameKind.free)∈scope.names:=PySem.mem_of_lookup (S.drawn x (List.mem_of_getElem? h1'))
   have hk:=S.free _ hxf rfl
   obtain⟨m0,_,hl0⟩:=I.loc
   obtain⟨u,r,q⟩:=hl0 j x v hj hv (hk.elim (λz=>.inr (.inl z)) λz=>.inr (.inr z))
   refine⟨u,r,.inr ⟨WE (S.drawn x (List.mem_of_getElem? h1')),?_⟩⟩
   rcases q with⟨kl,_⟩ | ⟨_,c,hc,z⟩
   ·have kl':X.env.kindOf x=some .local:=kl
    rcases hk with hk | hk<;>(rw[kl']at hk;cases hk)
   ·obtain⟨c',hc'⟩:=Option.isSome_iff_exists.mp (hcl2 _ hxf rfl)
    have:=hcl _ _ hc'
    rw[hc]at this
    cases this
    exact⟨c,hc',z.keeps k⟩
 ·obtain⟨v,z⟩:=I.cell x c (hcl x c e)
  exact⟨v,z.keeps k⟩
 ·rcases List.mem_append.mp hp' with z | z
  ·obtain⟨e,n,ne,nf,d⟩:=I.pin p z
   exact⟨k _ _ e,n,Nat.ne_of_lt (Nat.lt_of_lt_of_le (Heap.lt_size e) hC),I.stkne ne nf,d⟩
  ·exact hp p z
 ·unfold GQ
  show _=(tn++cn).length
  have:=congrArg List.length S.caps
  simp only[List.length_map]at this
  simp[this]
end
def FC:TT:=λ_ H Q=>Q true H
def K5(X:Cx)(ifs:List Expr)(t:TT):Prop :=
 ∀ (pins:List (Addr × Obj)) (s:Shared) (σ:St) (H:Hp) (Q:Bool->Hp->Prop),Inv X pins σ H s->t σ H Q →
  wpAny (model X.prog X.w) X.A (forIn ifs true λc r=>if r=true then do let ok ← isTrue c X.env (eval c X.env);pure (ForInStep.yield ok)else pure (ForInStep.yield r)) (TP X pins σ Q) X.xe s
theorem K6{X:Cx}:K5 X [] FC:=λpins s σ H Q I h=>wpAny_tests_nil ⟨H,I,h⟩
theorem kK{X:Cx}{c:Expr}{t:TT}(h:PT X c t):K5 X [c] t:=λpins s σ H Q I q=>wpAny_tests_one (h pins s σ H Q I q)
theorem kL {prog:Program} {w:World} {A:Around} {R:Result->Shared->Prop} {s:Shared} {elt target iter:Expr} {ifs:List Expr} {scope:Scope} {pos:Pos} {it acc:Value} {env:Env} (Jn:Nat->Shared->Prop)
    (turn:∀ n s,Jn n s->wpAny (model prog w) A (pyNext it) (λr s₁=>match r with
      | none=>R (.ok .next) s₁
      | some v=>wpAny (model prog w) A (letOwnedTupleGo target it v) (λ_ s₂=>wpAny (model prog w) A (assign target env v) (λ_ s₃ =>
          wpAny (model prog w) A (forIn ifs true λc r=>if r=true then do let ok ← isTrue c env (eval c env);pure (ForInStep.yield ok)else pure (ForInStep.yield r)) (λok s₄ =>
            if ok=true then wpAny (model prog w) A (eval elt env) (λx s₅ =>
              wpAny (model prog w) A (call (.builtin "list.append") [acc,x]) (λ_ s₆=>∃ m,m<n/\Jn m s₆) (λ_ _=>False) s₅) (λ_ _=>False) s₄
            else ∃ m,m<n/\Jn m s₄) (λ_ _=>False) s₃) (λ_ _=>False) s₂) (λ_ _=>False) s₁) (λ_ _=>False) s)
    (n:Nat) (h:Jn n s):codeAny (model prog w) A (.compLoop (.ListComp elt [⟨target,iter,ifs,0⟩] scope pos) 0 it acc env) R s:=by
  refine codeAny_loop rfl Jn (λn' s' hJ=> ?_) n h
  show wpAny _ A ((compTurn (.ListComp elt [⟨target,iter,ifs,0⟩] scope pos) 0 it acc env).onRaise (λx'=>do noteFrame x' env;theTreesLotGoes x')) _ _ s'
  refine wpAny_noted (wpAny_noRaise ?_)
  rw[compTurn_list]
  refine wpAny_bind (wpAny_standAt (wpAny_bind (AM (turn n' s' hJ) λr s₁ h₁=> ?_)))
  cases r with
  | none=>exact wpAny_pure h₁
  | some v =>
    refine wpAny_bind (AM h₁ λ_ s₂ h₂=> ?_)
    refine wpAny_bind (AM h₂ λ_ s₃ h₃=>wpAny_bind (AM h₃ λok s₄ h₄=> ?_))
    cases ok with
    | false=>exact wpAny_pure ⟨rfl,h₄⟩
    | true=>exact wpAny_bind (wpAny_bind (AM h₄ λx' s₅ h₅=>wpAny_bind (AM h₅ λ_ s₆ h₆=>wpAny_pure (wpAny_pure ⟨rfl,h₆⟩))))
def EW(wi:TI)(g:TG)(tt:TT)(te:TE)(k:Nat)(cap:List Nat):TE:=λσ H Q=>wi σ H λJ H1 =>
 ∃ W:Nat->Nat->St->List V->Hp->Prop,(∃ m,W 0 m (GQ k cap σ) [] H1)/\∀ i m σ' ys H,W i m σ' ys H →
  (J.stop i H/\∀ p,H p=none->Q (.ref p) (upd H p (.lst ys))) ∨
  (J.go i H/\ys.length<sizeLine/\∀ x H',J.yld i H x H'->g x σ' H' λσ2 H2=>tt σ2 H2 λb H3 =>
   if b=true then ∃ N:VK,(∀ y H4,N y H4->∃ m',m'<m/\W (i+1) m' σ2 (ys++[y]) H4)/\te σ2 H3 N else ∃ m',m'<m/\W (i+1) m' σ2 ys H3)
structure CompDone(X:Cx)(fp:List Addr)(H:Hp)(s:Shared)(Q:VK)(acc:Value)(C:Addr)(r:Result)(s':Shared):Prop where
 ok:r=.ok .next
 ex:∃ (D:Addr) (ys:List V) (its:List Value) (n:Nat) (H':Hp),acc=.ref D/\Vals ys its/\ys.length<=sizeLine/\s'.heap.get? D=some { cls:=.type "list",data:=.seq its.toArray n }/\s.heap.objs.size<=D/\D≠C/\H' D=none/\H' C=none ∧
  (∃ m,s'.heap.Ns C m)/\Un (CV X.stack) fp H H' s.heap s'.heap/\HOk X.prog X.w H' s'.heap/\∀ p,H' p=none->Q (.ref p) (upd H' p (.lst ys))
 ge:s.heap.objs.size<=C
 os:s'.os=s.os
 bare:AllBare s'.gens
section
variable{X:Cx}{pins:List (Addr × Obj)}{σ:St}{H:Hp}{s:Shared}
theorem WG {tg iter elt:Expr} {ifs:List Expr} {scope:Scope} {pos:Pos} {g:TG} {tt:TT} {te:TE} {tn cn:List Str} {cap:List Nat} {cl:List (Str × Addr)} {it:Addr} {fp:List Addr} {tn':Nat->Heap->Prop} {J:It} {Q:VK} {E:Value->Shared->Prop}
    (I:Inv X pins σ H s) (S:IQ X scope tn cn cap) (hc:X.calm=true)
    (hcl:∀ x c,cl.lookup x=some c->X.env.cells.lookup x=some c) (hcl2:∀ x∈scope.names,x.2=.free->(cl.lookup x.1).isSome=true)
    (T:G5 X.prog X.w X.K tg J fp it tn') (st:tn' 0 s.heap) (hf:∀ b∈fp,FpOk X pins H b)
    (hg:∀ C,PG (X.block pins s H (tn++cn) scope cl C fp) tg g) (ht:∀ C,K5 (X.block pins s H (tn++cn) scope cl C fp) ifs tt) (he:∀ C,PE (X.block pins s H (tn++cn) scope cl C fp) elt te)
    (W:Nat->Nat->St->List V->Hp->Prop) {m0:Nat} (w0:W 0 m0 (GQ tn.length cap σ) [] H)
    (step:∀ i m σ' ys H,W i m σ' ys H →
      (J.stop i H/\∀ p,H p=none->Q (.ref p) (upd H p (.lst ys))) ∨
      (J.go i H/\ys.length<sizeLine/\∀ x H',J.yld i H x H'->g x σ' H' λσ2 H2=>tt σ2 H2 λb H3 =>
        if b=true then ∃ N:VK,(∀ y H4,N y H4->∃ m',m'<m/\W (i+1) m' σ2 (ys++[y]) H4)/\te σ2 H3 N else ∃ m',m'<m/\W (i+1) m' σ2 ys H3)) :
    wpAny (model X.prog X.w) X.A (newList []) (λacc s₃=>wpAny (model X.prog X.w) X.A (newFunctionEnv scope X.env.globals cl [] X.env.qual none .none (some X.env)) (λcenv s₄ =>
      codeAny (model X.prog X.w) X.A (.compStart (.ListComp elt [⟨tg,iter,ifs,0⟩] scope pos) 0 (.ref it) acc { cenv with scope:=relabel scope X.env }) (CompDone X fp H s Q acc cenv.locals) s₄) E s₃) E s:=by
  refine wpAny_newObj_type (wpAny_newFunctionEnv S.nocell (by intro y hy;simp at hy) (λh₁ hns₁ hsb₁=> ?_) S.kind)
  dsimp only at hns₁ hsb₁ ⊢
  generalize hH2:s.heap.push { cls:=.type "list",dict:=none,data:=.seq ([]:List Value).toArray }=H2 at hns₁ hsb₁ ⊢
  have hCs:H2.objs.size=s.heap.objs.size+1:=by rw[<-hH2,Heap.size_push]
  generalize hCe:H2.objs.size=C at hns₁ hsb₁ ⊢
  have hC:C=s.heap.objs.size+1:=hCe.symm.trans hCs
  generalize hD:s.heap.objs.size=D at *
  have hDC:D≠C:=by rw[hC];exact Nat.ne_of_lt (Nat.lt_succ_self _)
  have old:∀ b o,s.heap.get? b=some o->h₁.get? b=some o:=λb o e=>by
    have hb:b<D:=by rw[<-hD];exact Heap.lt_size e
    have hbC:b≠C:=DM hb (by rw[hC];exact Nat.le_succ _)
    exact hsb₁.extBut b o hbC (Heap.get?_push_of_some _ (hH2 ▸ Heap.get?_push_of_some _ e))
  have hDo:h₁.get? D=some { cls:=.type "list",data:=.seq ([]:List Value).toArray }:=by
    refine hsb₁.extBut _ _ hDC (Heap.get?_push_of_some _ ?_)
    rw[<-hH2,<-hD]
    exact Heap.get?_push_size _ rfl
  have hfl:∀ b∈fp,b<s.heap.objs.size:=λb hb=>by
    obtain⟨o,e,_⟩:=T.obj 0 _ st b hb
    exact Heap.lt_size e
  have hDn:H D=none:=by rw[<-hD];exact I.hok.fresh (Nat.le_refl _)
  have hDs:D∉CV X.stack:=λz=>DM (I.stklt z) (Nat.le_of_eq hD) rfl
  have I0:Inv (X.block pins s H (tn++cn) scope cl C fp) [(D,{ cls:=.type "list",data:=.seq ([]:List Value).toArray 0 })] (GQ tn.length cap σ) H { s with heap:=h₁,toks:=s.toks+([]:List (Str × Value)).length } :=
    I.block S hcl hcl2 hf hfl (by omega) old rfl rfl ⟨_,hns₁⟩ λp hp=>by
      rw[List.mem_singleton]at hp
      subst hp
      exact⟨hDo,hDn,hDC,hDs,λv z=>nomatch z⟩
  have fpok:∀ {H':Hp} {o:Obj},(∀ b∈fp,H' b=none)->∀ b∈fp,FpOk (X.block pins s H (tn++cn) scope cl C fp) [(D,o)] H' b:=λ{H' o} hn b hb=>by
    obtain⟨_,f1,f2,f3,f4,f5⟩:=hf b hb
    have hbl:=hfl b hb
    refine⟨hn b hb,?_,I.stkne f1 f2,.inl hb,λx c e=>f4 x c (hcl x c e),λp hp=> ?_⟩
    ·exact DM hbl (by rw[hD,hC];exact Nat.le_succ _)
    · rcases List.mem_append.mp hp with z | z
      ·exact f5 p z
      ·rw[List.mem_singleton]at z;subst z;exact Ne.symm (DM hbl (Nat.le_of_eq hD))
  have st1:tn' 0 h₁:=T.keep _ _ _ st λb _ o e=>old b o e
  have loop:∀ s₃:Shared,s₃={ s with heap:=h₁,toks:=s.toks+([]:List (Str × Value)).length } →
      codeAny (model X.prog X.w) X.A (.compLoop (.ListComp elt [⟨tg,iter,ifs,0⟩] scope pos) 0 (.ref it) (.ref D) (compEnvC scope cl C X.env)) (CompDone X fp H s Q (.ref D) C) s₃:=by
    rintro s₃ rfl
    refine kL (λn s'=>∃ i σ' ys its nn H',Inv (X.block pins s H (tn++cn) scope cl C fp) [(D,{ cls:=.type "list",data:=.seq (its:List Value).toArray nn })] σ' H' s'/\tn' i s'.heap/\(∀ b∈fp,H' b=none)/\Vals ys its/\ys.length<=sizeLine/\W i n σ' ys H') ?_ m0
      ⟨0,_,[],[],0,H,I0,st1,λb hb=>(hf b hb).1,.nil,Nat.zero_le _,w0⟩
    rintro n s4 ⟨i,σ4,ys,its,nn,H4,I4,st4,fr4,r4,l4,w4⟩
    rcases step i n σ4 ys H4 w4 with⟨stop,qn⟩ | ⟨go,hlt,next⟩
    · refine AM (T.done (X.block pins s H (tn++cn) scope cl C fp) rfl rfl rfl hc i _ s4 σ4 H4 _ I4 (fpok fr4) st4 stop) λr s5 ⟨hr,I5⟩=> ?_
      subst hr
      have hp:=I5.pin (D,_) (List.mem_append_right _ List.mem_cons_self)
      obtain⟨m5,hm5,_⟩:=I5.loc
      exact⟨rfl,⟨D,ys,its,nn,H4,rfl,r4,l4,hp.1,by omega,hDC,hp.2.1,I5.free,⟨m5,hm5⟩,I5.base,I5.hok,qn⟩,by omega,I5.os,I5.bare⟩
    · refine AM (T.item (X.block pins s H (tn++cn) scope cl C fp) rfl rfl rfl hc i _ s4 σ4 H4 _ I4 (fpok fr4) st4 go) λr s5 ⟨u,hr,h5⟩=> ?_
      subst hr
      refine AM h5 λ_ s6 ⟨x,H6,I6,r6,y6,st6,fr6⟩=> ?_
      have I6':=I6.pinned (fpok fr6) (T.obj _ _ st6)
      refine AM (hg C _ s6 σ4 H6 x u _ I6' r6 (next x H6 y6)) λ_ s7 ⟨σ7,H7,I7,q7⟩=> ?_
      refine AM (ht C _ s7 σ7 H7 _ I7 q7) λok s8 ⟨H8,I8,q8⟩=> ?_
      have keepst:∀ {σ9:St} {H9:Hp} {s9:Shared},Inv (X.block pins s H (tn++cn) scope cl C fp) ([(D,{ cls:=.type "list",data:=.seq its.toArray nn })]++KY fp s6.heap) σ9 H9 s9->(∀ b∈fp,∀ o,s6.heap.get? b=some o->s9.heap.get? b=some o)/\∀ b∈fp,H9 b=none:=λ{σ9 H9 s9} I9=>by
        refine⟨λb hb o e=>(I9.pin (b,o) (List.mem_append_right _ (List.mem_append_right _ (MP hb e)))).1,λb hb=> ?_⟩
        obtain⟨o,e,_⟩:=T.obj _ _ st6 b hb
        exact(I9.pin (b,o) (List.mem_append_right _ (List.mem_append_right _ (MP hb e)))).2.1
      cases ok with
      | false =>
        obtain⟨m',hm',w'⟩:=q8
        obtain⟨k1,k2⟩:=keepst I8
        exact⟨m',hm',i+1,σ7,ys,its,nn,H8,I8.unpinned,T.keep _ _ _ st6 k1,k2,r4,l4,w'⟩
      | true =>
        obtain⟨Nw,hN,q8⟩:=q8
        refine AM (he C _ s8 σ7 H8 Nw I8 q8) λv s9 ⟨y,H9,I9,r9,n9⟩=> ?_
        obtain⟨m',hm',w'⟩:=hN y H9 n9
        obtain⟨k1,k2⟩:=keepst I9
        have hp:=I9.pin (D,_) (List.mem_append_right _ (List.mem_append_left _ List.mem_cons_self))
        have e:=hp.1
        have hlen:=r4.length
        refine call_meets F.slot_list_append ⟨_,e,rfl⟩ F.entry_list_append (F.args_list_append_2 _ _) (PySem.list_append D its.toArray nn v (by rw[List.size_toArray];omega)) ⟨e,?_⟩
        have q:=PySem.IsL.update e (λxs=>xs.push v)
        have Ia:Inv (X.block pins s H (tn++cn) scope cl C fp) [] σ7 H9 s9:=I9.pins_of λp hp=>nomatch hp
        have Ib:=Ia.turned (h':=s9.heap.update D (Obj.mapSeq (·.push v))) (t':=s9.toks) (it:=D) (λb o hb eb=>(Heap.get?_update_other _ _ (Ne.symm hb)).trans eb) hp.2.1 hDC (.inr (by show s.heap.objs.size<=D;omega))
          (λx c ec z=>by
            obtain⟨vv,zc⟩:=I.cell x c (hcl x c ec)
            exact DM zc.lt (Nat.le_of_eq hD) z)
          (λp hp'=>by
            rw[List.append_nil]at hp'
            exact DM (I.pinlt hp') (Nat.le_of_eq hD))
        have q':(s9.heap.update D (Obj.mapSeq (·.push v))).get? D=some { cls:=.type "list",data:=.seq (its++[v]).toArray (nn+1) }:=by
          rw[if_neg (by simp)]at q
          rw[<-List.push_toArray]
          exact q
        refine⟨m',hm',i+1,σ7,ys++[y],its++[v],nn+1,H9,Ib.pins_of (λp hp'=> ?_),T.keep _ _ _ st6 λb hb o eb=> ?_,k2,r4.append (.cons r9 .nil),?_,w'⟩
        · rw[List.mem_singleton]at hp'
          subst hp'
          exact⟨q',hp.2.1,hDC,hDs,λv' z=>nomatch z⟩
        · have hbl:=hfl b hb
          exact(Heap.get?_update_other _ _ (Ne.symm (DM hbl (Nat.le_of_eq hD)))).trans (k1 b hb o eb)
        · rw[List.length_append,List.length_singleton]
          omega
  exact codeAny_compStart_list (loop _ rfl) (T.self _ 0 _ _ _ st1 (loop _ rfl))
theorem CompDone.inv{Q:VK}{acc:Value}{C:Addr}{r:Result}{s':Shared}{fp:List Addr}(I:Inv X pins σ H s)(hf:∀ b∈fp,FpOk X pins H b)(h:CompDone X fp H s Q acc C r s') :
  ∃ D H',acc=.ref D/\Inv X pins σ H' s'/\Q (.ref D) H'/\H' C=none/\∃ m,s'.heap.Ns C m:=by
 obtain⟨_,⟨D,ys,its,n,H',rfl,r4,l4,e,hD,hDC,hDn,hCn,hm,u,ok,q⟩,hC,os,bare⟩:=h
 have lt:∀ b o,s.heap.get? b=some o->b≠D:=λb o eb=>DM (Heap.lt_size eb) hD
 have ltH:∀ b o,H b=some o->b≠D:=λb o eb=>DM (I.hok.lt eb) hD
 refine⟨D,upd H' D (.lst ys),rfl,I.call' (ch:=fp) os ⟨u.keep,u.slot,λb o eb n' hx=> ?_,u.there,λb xs eb=> ?_,λb o x eb=> ?_,λb ps eb=> ?_⟩ (ok.track hDn ⟨l4,its,n,r4,e⟩) bare (λb hb=> ?_),q D hDn,?_,hm⟩
 ·rw[AI (lt b o eb)];exact u.free b o eb n' hx
 ·rw[AI (ltH b _ eb)];exact u.tups b xs eb
 ·rw[AI (ltH b _ eb)];exact u.frzs b o x eb
 ·rw[AI (ltH b _ eb)];exact u.tbls b ps eb
 ·obtain⟨_,f1,f2,f3,f4,f5⟩:=hf b hb
  exact⟨f3,f1,f4,f5⟩
 ·rw[AI (Ne.symm hDC)];exact hCn
theorem Inv.letgo{C:Addr}{h':Heap}{s1:Shared}{σ1:St}{H1:Hp}(I:Inv X pins σ H s)(hC:s.heap.objs.size<=C)(I1:Inv X pins σ1 H1 s1)(hn:H1 C=none)(hs:Heap.SameBut C s1.heap h'):Inv X pins σ1 H1 { s1 with heap:=h' }:=by
 refine I1.turned (t':=s1.toks) (it:=C) (λb o hb e=>(hs.2 b hb).trans e) hn (λz=> ?_) (.inr ?_) (λx c e z=> ?_) λp hp z=> ?_
 ·exact DM I.lt hC z.symm
 ·exact Nat.le_trans I.sz hC
 ·obtain⟨v,zc⟩:=I.cell x c e
  exact DM zc.lt hC z
 ·exact DM (I.pinlt hp) hC z
variable{tg iter elt:Expr}{ifs:List Expr}{scope:Scope}{pos:Pos}{wi:TI}{g:TG}{tt:TT}{te:TE}{tn cn:List Str}{cap:List Nat}
theorem K7(S:IQ X scope tn cn cap)(hc:X.calm=true)(hi:PI X tg iter wi)
  (hg:∀ pins s H cl C fp,PG (X.block pins s H (tn++cn) scope cl C fp) tg g) (ht:∀ pins s H cl C fp,K5 (X.block pins s H (tn++cn) scope cl C fp) ifs tt) (he:∀ pins s H cl C fp,PE (X.block pins s H (tn++cn) scope cl C fp) elt te)
  (hs:∀ x,foldedSetIterable iter X.env x=pure x:=by intro _;rfl):PE X (.ListComp elt [⟨tg,iter,ifs,0⟩] scope pos) (EW wi g tt te tn.length cap):=by
 intro pins s σ H Q I h
 obtain⟨cl,ecl,hcl,hcl2⟩:=WD (env:=X.env) (scope:=scope) λx hx hxf=>I.ok.has x.1 (S.free x hx hxf)
 rw[eval_ListComp]
 refine wpAny_comprehension_free (use:=none) rfl hs ecl S.kind S.names (AM (hi pins s σ H _ I h) λv s1 h1=>AM h1 λitv s2 h2=> ?_)
 obtain⟨it,fp,tn',J,H2,e,I2,T,st2,f2,W,⟨m0,w0⟩,turn⟩:=h2
 subst e
 refine AM (WG I2 S hc hcl hcl2 T st2 f2 (λC=>hg _ _ _ _ C _) (λC=>ht _ _ _ _ C _) (λC=>he _ _ _ _ C _) W w0 turn) λacc s3 h3=>AM h3 λcenv s4 h4=>codeAny_mono h4 λr s5 h5=> ?_
 have hr:=h5.ok
 subst hr
 obtain⟨D,H',rfl,I5,q5,hCn,m,hm⟩:=h5.inv I2 f2
 exact⟨m,hm,λh' hs'=>⟨.ref D,H',I2.letgo h5.ge I5 hCn hs',rfl,q5⟩⟩
theorem kM{i:Nat}{x:Str}{px spos:Pos}(S:IQ X scope tn cn cap)(hc:X.calm=true)(hN:X.N.Nodup)(hi':X.N[i]? =some x)(hx:X.env.scope.names.lookup x=some .local)(hi:PI X tg iter wi)
  (hg:∀ pins s H cl C fp,PG (X.block pins s H (tn++cn) scope cl C fp) tg g) (ht:∀ pins s H cl C fp,K5 (X.block pins s H (tn++cn) scope cl C fp) ifs tt) (he:∀ pins s H cl C fp,PE (X.block pins s H (tn++cn) scope cl C fp) elt te)
  (hsw:swapsWith (.ListComp elt [⟨tg,iter,ifs,0⟩] scope pos) (some (.Name x px)) spos.line X.env=pure true:=by rfl)
  (hs:∀ x,foldedSetIterable iter X.env x=pure x:=by intro _;rfl):PS X (.Assign [.Name x px] (.ListComp elt [⟨tg,iter,ifs,0⟩] scope pos) spos) (A9 (EW wi g tt te tn.length cap) (AW i)):=by
 intro pins s σ H D I h
 obtain⟨cl,ecl,hcl,hcl2⟩:=WD (env:=X.env) (scope:=scope) λx hx hxf=>I.ok.has x.1 (S.free x hx hxf)
 rw[exec_Assign_Name_used _ _ _ _ hsw]
 refine wpAny_bind (wpAny_standAt (wpAny_bind ?_))
 unfold evalThenUse
 refine wpAny_bind ?_
 refine wpAny_comprehension_free (use:=some (assign (.Name x px) X.env)) rfl hs ecl S.kind S.names (AM (hi pins s σ H _ I h) λv s1 h1=>AM h1 λitv s2 h2=> ?_)
 obtain⟨it,fp,tn',J,H2,e,I2,T,st2,f2,W,⟨m0,w0⟩,turn⟩:=h2
 subst e
 refine AM (WG (Q:=λx' H1=>AW i x' σ H1 D.nx) I2 S hc hcl hcl2 T st2 f2 (λC=>hg _ _ _ _ C _) (λC=>ht _ _ _ _ C _) (λC=>he _ _ _ _ C _) W w0 turn) λacc s3 h3=>AM h3 λcenv s4 h4=>codeAny_mono h4 λr s5 h5=> ?_
 have hr:=h5.ok
 subst hr
 obtain⟨Da,H',rfl,I5,q5,hCn,m,hm⟩:=h5.inv I2 f2
 show wpAny _ _ (assign (.Name x px) X.env (.ref Da)) _ _ s5
 refine wpAny_assign_Name (UH I5 hN hi' (.inl hx) (show RelV (.ref Da) (.ref Da)from rfl) (λs6 I6 ⟨a,hsb,ha⟩=> ?_) (.inr hx))
 refine⟨m,hm.sameBut hsb ?_,λh' hs'=> ?_⟩
 ·rcases ha with z | z
  ·exact Ne.symm (z ▸ DM I2.lt h5.ge)
  ·obtain⟨vv,zc⟩:=I2.cell x a z
   exact Ne.symm (DM zc.lt h5.ge)
 ·exact wpAny_pure (wpAny_pure ⟨σ.set i (some (.ref Da)),H',I2.letgo h5.ge I6 hCn hs',q5⟩)
end
end L2
namespace L2
theorem ObjOk.there{P:Program}{w:World}{H:Hp}{h:Heap}{a:Addr}{o:HO}(x:ObjOk P w H h a o):∃ ob,h.get? a=some ob:=by
 cases o with
 | lst xs=>obtain⟨_,_,_,_,e⟩:=x;exact⟨_,e⟩
 | tup xs=>obtain⟨_,_,_,ob,e,_⟩:=x;exact⟨_,e⟩
 | dK kvs=>obtain⟨_,_,_,_,ob,_,_,e,_⟩:=x;exact⟨_,e⟩
 | dT kvs=>obtain⟨_,_,_,_,ob,_,_,e,_⟩:=x;exact⟨_,e⟩
 | set S n=>obtain⟨ob,_,_,_,e,_⟩:=x;exact⟨_,e⟩
 | ins C dx fs=>obtain⟨_,_,_,e,_⟩:=x;exact⟨_,e⟩
 | own y=>exact x
 | xd fs=>obtain⟨_,⟨ob,_,_,e,_⟩,_⟩:=x;exact⟨_,e⟩
 | rng lo hi=>obtain⟨_,_,_,e⟩:=x;exact⟨_,e⟩
 | frz ob u=>obtain⟨e,_⟩:=x;exact⟨_,e⟩
 | tbl ps=>exact⟨_,show h.get? a=some _ from x⟩
 | met f y=>exact⟨_,show h.get? a=some _ from x⟩
 | ext φ =>exact x.2.1
theorem HOk.nh{P:Program}{w:World}{H:Hp}{h:Heap}{a:Addr}(x:HOk P w H h)(e:h.get? a=none):H a=none:=by
 cases q:H a with
 | none=>rfl
 | some o =>
  obtain⟨ob,e'⟩:=(x a o q).there
  rw[e]at e';cases e'
section
variable{X:Cx}{pins:List (Addr × Obj)}{σ:St}{H H':Hp}{s:Shared}{h':Heap}
theorem Inv.stepN{g':Array GenState}{t':Nat}{d':Drawn}{ch:List Addr}(I:Inv X pins σ H s)
  (hch:∀ b∈ch,(b∈X.ex\/X.s₀.heap.get? b=none)/\b≠X.env.locals/\(∀ x c,X.env.cells.lookup x=some c->c≠b)/\∀ p∈X.pn++pins,p.1≠b)
  (keep:∀ b o,b≠X.env.locals->b∉X.fs->b∉ch->s.heap.get? b=some o->H b=none->h'.get? b=some o)
  (slot:∀ b o,b≠X.env.locals->b∈X.fs->b∉ch->s.heap.get? b=some o->H b=none->∃ sl,h'.get? b=some { o with slots:=sl }) (free:∀ b o,b∉ch->s.heap.get? b=some o->H b=none->H' b=none)
  (there:∀ b o,b∉ch->s.heap.get? b=some o->∃ o',h'.get? b=some o')
  (tups:∀ b xs,H b=some (.tup xs)->H' b=some (.tup xs)) (frzs:∀ b o u,H b=some (.frz o u)->H' b=some (.frz o u)) (tbls:∀ b ps,H b=some (.tbl ps)->∃ more,H' b=some (.tbl (ps++more)))
  (ns:∀ m,s.heap.Ns X.env.locals m->h'.Ns X.env.locals m) (hok:HOk X.prog X.w H' h') (hg:AllBare g') :
  Inv X pins σ H' { s with heap:=h',gens:=g',drawn:=d',toks:=t' }:=by
 have neL:∀ b o,X.s₀.heap.get? b=some o->b≠X.env.locals:=λb o e=>Nat.ne_of_lt (Nat.lt_of_lt_of_le (Heap.lt_size e) I.ok.above)
 have neC:∀ b o,X.s₀.heap.get? b=some o->b∉X.ex->b∉ch:=λb o e hx hb=>by
  rcases(hch b hb).1 with z | z
  ·exact hx z
  ·rw[e]at z;cases z
 have cellK:∀ x c,X.env.cells.lookup x=some c->∀ v,s.heap.IsCell c v->h'.IsCell c v:=λx c e v ⟨o,ho,hd⟩=>by
  have nch:c∉ch:=λz=>(hch c z).2.2.1 x c e rfl
  by_cases hc:c∈X.fs
  ·obtain⟨sl,q⟩:=slot c o (I.cne x c e) hc nch ho (I.freeC x c e)
   exact⟨_,q,hd⟩
  ·exact⟨o,keep c o (I.cne x c e) hc nch ho (I.freeC x c e),hd⟩
 refine⟨I.ok,I.os,hg,⟨λb o e n hb hx=> ?_,λb o e n hb hx=> ?_,λb o e n hx=> ?_,λb o e hx=> ?_,λb xs e=>tups b xs (I.base.tups b xs e),λb o xs e=>frzs b o xs (I.base.frzs b o xs e),λb ps e=> ?_⟩,?_,λx c e=> ?_,?_,λx c e=> ?_,λp hp=> ?_,hok,I.len⟩
 ·exact keep b o (neL b o e) hb (neC b o e hx) (I.base.keep b o e n hb hx) (I.base.free b o e n hx)
 ·obtain⟨sl,e1⟩:=I.base.slot b o e n hb hx
  obtain⟨sl',e2⟩:=slot b _ (neL b o e) hb (neC b o e hx) e1 (I.base.free b o e n hx)
  exact⟨sl',e2⟩
 ·obtain⟨o',e1⟩:=I.base.there b o e hx
  exact free b o' (neC b o e hx) e1 (I.base.free b o e n hx)
 ·obtain⟨o',e1⟩:=I.base.there b o e hx
  exact there b o' (neC b o e hx) e1
 ·obtain⟨m1,e1⟩:=I.base.tbls b ps e
  obtain⟨m2,e2⟩:=tbls b _ e1
  exact⟨m1++m2,by rw[e2,Array.append_assoc]⟩
 ·obtain⟨m,hn,hl⟩:=I.loc
  refine⟨m,ns m hn,λi x v e1 e2 e3=> ?_⟩
  obtain⟨u,r,l⟩:=hl i x v e1 e2 e3
  refine⟨u,r,?_⟩
  rcases l with l | ⟨k,c,e,z⟩
  ·exact .inl l
  ·exact .inr ⟨k,c,e,cellK x c e _ z⟩
 ·obtain⟨v,z⟩:=I.cell x c e
  exact⟨v,cellK x c e v z⟩
 ·obtain⟨m,⟨o,_,_,ho,_⟩,_⟩:=I.loc
  exact free _ o (λz=>(hch _ z).2.1 rfl) ho I.free
 ·obtain⟨v,o,ho,hd⟩:=I.cell x c e
  exact free c o (λz=>(hch c z).2.2.1 x c e rfl) ho (I.freeC x c e)
 ·obtain⟨e,n,ne,nf,d⟩:=I.pin p hp
  have nch:p.1∉ch:=λz=>(hch p.1 z).2.2.2 p hp rfl
  exact⟨keep p.1 p.2 ne nf nch e n,free p.1 p.2 nch e n,ne,nf,d⟩
end
structure Fly(bad:Addr->Prop)(H:Hp)(h:Heap)(e:Addr)(cls:Value):Prop where
 nb:¬ bad e
 free:H e=none
 ex:∃ (oe:Obj) (vs:Array Value),h.get? e=some oe/\oe.cls=cls/\oe.dict=none/\oe.data=.fields vs/\(vs[1]? =some .none ∨
  ∃ (T:Addr) (oT:Obj) (ts:Array Value),vs[1]? =some (.ref T)/\¬ bad T/\H T=none/\T≠e/\h.get? T=some oT/\oT.data=.fields ts/\ts[3]? =some .none)
theorem Fly.mono{bad bad':Addr->Prop}{H:Hp}{h:Heap}{e:Addr}{cls:Value}(F:Fly bad H h e cls)(k:∀ a,bad' a->bad a):Fly bad' H h e cls:=by
 obtain⟨nb,fr,oe,vs,h1,h2,h3,h4,h5⟩:=F
 refine⟨λz=>nb (k _ z),fr,oe,vs,h1,h2,h3,h4,?_⟩
 rcases h5 with z | ⟨T,oT,ts,a,b,c⟩
 ·exact .inl z
 ·exact .inr ⟨T,oT,ts,a,λz=>b (k _ z),c⟩
section
variable{M:Model}{A:Around}{E:Value->Shared->Prop}{s:Shared}
theorem WH{base:Heap}{env:Env}{outer:List Env}{L e:Addr}{oe:Obj}{vs:Array Value}{hd:Value}{nx:Bool}{Q:Unit->Shared->Prop}
  (hfr:A.frames=some (env::outer)) (hl:s.heap.FunFrames base (env::outer)) (hf:env.frame=some L) (he:s.heap.get? e=some oe) (hdt:oe.data=.fields vs) (hsz:1<vs.size)
  (h:∀ h' T oT ts,(∀ b o,s.heap.get? b=some o->b≠e->b∉CV (env::outer)->h'.get? b=some o)->(∀ b o,s.heap.get? b=some o->b≠e->∃ sl,h'.get? b=some { o with slots:=sl }) →
   h'.get? e=some (oe.mapFields (·.setIfInBounds 1 (.ref T)))->s.heap.objs.size<=T->h'.get? T=some oT->oT.data=.fields ts->ts[3]? =some (rawInt L)->Q () { s with heap:=h' }) :
  wpAny M A (do let a ← frameOf env;let pl ← entryPlaceOf L nx;let b ← EntryCells.newEntry hd a .none (rawInt L) .none pl;setField (.ref e) 1 b) Q E s:=by
 have hne:e∉(env::outer).filterMap (·.frame):=λz=>by
  obtain⟨_,o,ho,hn⟩:=hl.mem z
  rw[he]at ho;cases ho
  exact hn vs hdt
 refine wpAny_bind (wpAny_frameOf_fun hfr hl hf λh1 hs1=> ?_)
 refine wpAny_bind (wpAny_entryPlaceOf λpl hpl=> ?_)
 unfold EntryCells.newEntry newFields
 refine wpAny_bind (wpAny_newObj_type ?_ (hpl.sizeOk5 _ _ _ _ _))
 have he1:h1.get? e=some oe:=(hs1.2.1 e hne).trans he
 refine wpAny_setField (Heap.get?_push_of_some _ he1) hdt hsz ?_
 have hTe:h1.objs.size≠e:=Nat.ne_of_gt (Heap.lt_size he1)
 have hd3:=Obj.data_mapFields hdt (·.setIfInBounds 1 (Value.ref h1.objs.size))
 have keep:∀ b o,b≠e->h1.get? b=some o->((h1.push { cls:=.type "traceback",dict:=none,data:=.fields ([hd,.ref L,.none,rawInt L,.none]++(if pl.isEmpty then List.replicate 6 Value.none else pl)).toArray }).update e (Obj.mapFields (·.setIfInBounds 1 (Value.ref h1.objs.size)))).get? b=some o:=λb o hb e1=>by
  rw[Heap.get?_update_other _ _ (Ne.symm hb)]
  exact Heap.get?_push_of_some _ e1
 refine h _ h1.objs.size _ _ (λb o e1 hb hnf=>keep b o hb ((hs1.2.1 b hnf).trans e1)) (λb o e1 hb=> ?_) (Heap.get?_update_self _ (Heap.get?_push_of_some _ he1) (Obj.isFreed_of_fields hd3)) (by rw[hs1.1];exact Nat.le_refl _)
  ((Heap.get?_update_other _ _ (Ne.symm hTe)).trans (Heap.get?_push_size _ rfl)) rfl ?_
 ·obtain⟨sl,e2⟩:=hs1.2.2 b o e1
  exact⟨sl,keep b _ hb e2⟩
 ·first | (simp;done) | (rcases hpl with rfl | ⟨_,_,_,_,_,_,_,rfl⟩<;>simp)
structure WI(fr:List Addr)(bad:Addr->Prop)(H:Hp)(e:Addr)(cls:Value)(h h':Heap):Prop where
 ch:∃ ch:List Addr,(∀ b∈ch,¬ bad b/\H b=none/\∃ o vs,h.get? b=some o/\o.data=.fields vs)/\(∀ b o,h.get? b=some o->b∉ch->b∉fr->h'.get? b=some o) ∧
  (∀ b o,h.get? b=some o->b∉ch->∃ sl,h'.get? b=some { o with slots:=sl })
 fly:Fly bad H h' e cls
theorem kN{A2:Around}{E2:Value->Shared->Prop}{base:Heap}{env:Env}{outer:List Env}{L e:Addr}{cls:Value}{bad:Addr->Prop}{H:Hp}{Q:Unit->Shared->Prop}
  (hfr:A.frames=some (env::outer)) (hl:s.heap.FunFrames base (env::outer)) (hf:env.frame=some L) (F:Fly bad H s.heap e cls) (hb:∀ a,s.heap.objs.size<=a->¬ bad a) (hH:∀ a,s.heap.objs.size<=a->H a=none)
  (h:∀ h',WI (CV (env::outer)) bad H e cls s.heap h'->Q () { s with heap:=h' }) :
  wpAny M A (noteFrame (.ref e) env) (λ_ s2=>wpAny M A2 (setFlight (.ref e) none) Q E2 s2) E s:=by
 obtain⟨nb,fr,oe,vs,he,hcls,hdict,hd,htb⟩:=F
 have EA:∀ (s1:Shared) (ch:List Addr) (h':Heap) (T:Addr) (oT:Obj) (ts:Array Value) (oe1:Obj),(∀ b o,s.heap.get? b=some o->s1.heap.get? b=some o\/b∈ch)->s1.heap.objs.size=s.heap.objs.size->e∈ch->(∀ b∈ch,¬ bad b/\H b=none/\∃ o vs,s.heap.get? b=some o/\o.data=.fields vs) →
   oe1.cls=cls->oe1.dict=none->oe1.data=.fields vs->1<vs.size →
   (∀ b o,s1.heap.get? b=some o->b≠e->b∉CV (env::outer)->h'.get? b=some o)->(∀ b o,s1.heap.get? b=some o->b≠e->∃ sl,h'.get? b=some { o with slots:=sl }) →
   h'.get? e=some (oe1.mapFields (·.setIfInBounds 1 (.ref T)))->s1.heap.objs.size<=T->h'.get? T=some oT->oT.data=.fields ts->ts[3]? =some (rawInt L)->wpAny M A2 (setFlight (.ref e) none) Q E2 { s with heap:=h' }:=by
  intro s1 ch h' T oT ts oe1 hk1 hsz hech hch hcls1 hdict1 hd1 hv k1 k2 e1 hT e2 hdT h3
  have hT':s.heap.objs.size<=T:=hsz ▸ hT
  have hTe:T≠e:=Ne.symm (DM (Heap.lt_size he) hT')
  have hde:=Obj.data_mapFields hd1 (·.setIfInBounds 1 (Value.ref T))
  unfold setFlight
  refine wpAny_bind (wpAny_field e1 hde (x:=.ref T) (by simp[hv]) ?_)
  rw[if_pos (show(Value.ref T != Value.none)=true from by simp)]
  have hs3:3<ts.size:=(Array.getElem?_eq_some_iff.mp h3).1
  refine wpAny_setField e2 hdT hs3 (h _ ?_)
  have oth:∀ b,b≠T->(h'.update T (Obj.mapFields (·.setIfInBounds 3 ((none:Option Addr).elim Value.none λf=>rawInt f)))).get? b=h'.get? b:=λb hb'=>Heap.get?_update_other _ _ (Ne.symm hb')
  have ltT:∀ b o,s.heap.get? b=some o->b≠T:=λb o eb=>DM (Heap.lt_size eb) hT'
  refine⟨⟨ch,hch,λb o eb hbc hbf=> ?_,λb o eb hbc=> ?_⟩,nb,fr,_,_,(oth e (Ne.symm hTe)).trans e1,(Obj.cls_mapFields _ _).trans hcls1,?_,hde,.inr ⟨T,_,_,by simp[hv],hb T hT',hH T hT',hTe,Heap.get?_update_self _ e2 (Obj.isFreed_of_fields (Obj.data_mapFields hdT _)),Obj.data_mapFields hdT _,by simp[hs3]⟩⟩
  ·rw[oth b (ltT b o eb)]
   rcases hk1 b o eb with z | z
   ·exact k1 b o z (λz'=>hbc (z' ▸ hech)) hbf
   ·exact absurd z hbc
  ·rw[oth b (ltT b o eb)]
   rcases hk1 b o eb with z | z
   ·exact k2 b o z (λz'=>hbc (z' ▸ hech))
   ·exact absurd z hbc
  ·obtain⟨c1,c2,c3,c4⟩:=oe1
   dsimp only at hd1
   subst hd1
   exact hdict1
 unfold noteFrame
 simp only[hf]
 rcases htb with h1 | ⟨T0,oT0,ts0,h1,nbT,frT,neT,eT,dT,h3⟩
 ·have hv:1<vs.size:=(Array.getElem?_eq_some_iff.mp h1).1
  refine wpAny_bind (wpAny_field he hd h1 ?_)
  rw[if_neg (by decide)]
  refine WH hfr hl hf he hd hv λh' T oT ts k1 k2 e1 hT e2 hdT h3=> ?_
  exact EA s [e] h' T oT ts oe (λb o eb=>.inl eb) rfl (by simp) (λb hb'=>by rw[List.mem_singleton]at hb';subst hb';exact⟨nb,fr,oe,vs,he,hd⟩) hcls hdict hd hv k1 k2 e1 hT e2 hdT h3
 ·have hv:1<vs.size:=(Array.getElem?_eq_some_iff.mp h1).1
  refine wpAny_bind (wpAny_field he hd h1 ?_)
  rw[if_pos (show(Value.ref T0 != Value.none)=true from by simp)]
  refine wpAny_bind (wpAny_field eT dT h3 ?_)
  rw[if_neg (show ¬ ((Value.none == rawInt L)=true)from by simp[rawInt])]
  refine wpAny_bind (wpAny_setField eT dT (Array.getElem?_eq_some_iff.mp h3).1 ?_)
  have oth:∀ b,b≠T0->(s.heap.update T0 (Obj.mapFields (·.setIfInBounds 3 Value.none))).get? b=s.heap.get? b:=λb hb'=>Heap.get?_update_other _ _ (Ne.symm hb')
  have nf:∀ b o,s.heap.get? b=some o->(∀ vs,o.data≠.fields vs)->b≠T0:=λb o eb hn z=>by rw[z,eT]at eb;cases eb;exact hn ts0 dT
  refine WH hfr (hl.of_keeps λb o eb hn=>⟨o,(oth b (nf b o eb hn)).trans eb,rfl⟩) hf ((oth e (Ne.symm neT)).trans he) hd hv λh' T oT ts k1 k2 e1 hT e2 hdT h3'=> ?_
  exact EA { s with heap:=s.heap.update T0 (Obj.mapFields (·.setIfInBounds 3 Value.none)) } [e,T0] h' T oT ts oe
   (λb o eb=>by
    by_cases z:b=T0
    ·exact .inr (by simp[z])
    ·exact .inl ((oth b z).trans eb))
   (Heap.size_after_update ..) (by simp)
   (λb hb'=>by
    rcases List.mem_cons.mp hb' with z | z
    ·subst z;exact⟨nb,fr,oe,vs,he,hd⟩
    ·rw[List.mem_singleton]at z;subst z;exact⟨nbT,frT,oT0,ts0,eT,dT⟩)
   hcls hdict hd hv k1 k2 e1 hT e2 hdT h3'
end
def Cx.bad(X:Cx)(pins:List (Addr × Obj)):Addr->Prop:=λa=>X.s₀.heap.get? a≠none\/∃ p∈X.pn++pins,p.1=a
structure XOk(X:Cx)(E:St->XK):Prop where
 po:PassesOwn (model X.prog X.w) X.A X.env X.xe
 ex:X.ex=[]
 calm:X.calm=true
 go:∀ (pins:List (Addr × Obj)) (σ:St) (H:Hp) (s:Shared) (e:Addr) (cls:Value),Inv X pins σ H s->Fly (X.bad pins) H s.heap e cls->E σ cls none H->X.xe (.ref e) s
section
variable{X:Cx}{pins:List (Addr × Obj)}{σ:St}{H:Hp}{s:Shared}
theorem Inv.notbad(I:Inv X pins σ H s)(hx:X.ex=[]){a:Addr}(h:s.heap.get? a=none):¬ X.bad pins a:=λz=>by
 rcases z with z | ⟨p,hp,rfl⟩
 ·cases q:X.s₀.heap.get? a with
  | none=>exact z q
  | some o =>
   obtain⟨o',e⟩:=I.base.there a o q (by rw[hx];simp)
   rw[h]at e;cases e
 ·have:=(I.pin p hp).1
  rw[h]at this;cases this
theorem kO{h:Heap}{a:Addr}(z:h.objs.size<=a):h.get? a=none:=by
 cases q:h.get? a with
 | none=>rfl
 | some o=>exact absurd (Nat.lt_of_lt_of_le (Heap.lt_size q) z) (Nat.lt_irrefl _)
theorem Inv.noted{e:Addr}{cls:Value}{h':Heap}(I:Inv X pins σ H s)(N:WI (CV X.stack) (X.bad pins) H e cls s.heap h'):Inv X pins σ H { s with heap:=h' }:=by
 obtain⟨⟨ch,hch,k1,k2⟩,_⟩:=N
 obtain⟨mL,⟨oL,esL,epL,hoL,dL,rL⟩,_⟩:=id I.loc
 have chne:∀ b∈ch,∀ o,s.heap.get? b=some o->∃ vs,o.data=.fields vs:=λb hb o eb=>by
  obtain⟨_,_,o',vs,e',d⟩:=hch b hb
  rw[eb]at e';cases e'
  exact⟨vs,d⟩
 have hL:X.env.locals∉ch:=λz=>by
  obtain⟨vs,d⟩:=chne _ z _ hoL
  rw[dL]at d;cases d
 refine I.stepN (g':=s.gens) (t':=s.toks) (d':=s.drawn) (ch:=ch) (λb hb=>⟨.inr ?_,λz=>hL (z ▸ hb),λx c ec z=> ?_,λp hp z=>(hch b hb).1 (.inr ⟨p,hp,z⟩)⟩)
  (λb o hbL hbf hbc eb _=>k1 b o eb hbc λz=>(List.mem_cons.mp (I.stkSub b z)).elim hbL hbf) (λb o _ _ hbc eb _=>k2 b o eb hbc) (λ_ _ _ _ n=>n) (λb o hbc eb=> ?_) (λ_ _ q=>q) (λ_ _ _ q=>q) (λb ps q=>⟨#[],by rw[q];simp⟩) (λm hm=> ?_) (λb o eb=> ?_) I.bare
 ·cases q:X.s₀.heap.get? b with
  | none=>rfl
  | some o=>exact absurd (.inl (by rw[q];simp)) (hch b hb).1
 ·obtain⟨v,oc,hoc,hd⟩:=I.cell x c ec
  obtain⟨vs,d⟩:=chne c (z ▸ hb) oc hoc
  rw[hd]at d;cases d
 ·obtain⟨sl,q⟩:=k2 b o eb hbc
  exact⟨_,q⟩
 ·obtain⟨o',es',ep',ho',r'⟩:=hm
  rw[hoL]at ho';cases ho'
  obtain⟨sl,q⟩:=k2 _ _ hoL hL
  exact⟨_,es',ep',q,r'⟩
 ·refine(I.hok b o eb).stay (λc u hc q=>k1 c u q ?_ ?_) (λ_ q=>q) λ_ _ q=>q
  ·intro z
   have fr:=(hch c z).2.1
   rcases hc with rfl | hc
   ·rw[eb]at fr;cases fr
   ·rw[hc]at fr;cases fr
  ·intro z
   have fr:=I.stkFree c z
   rcases hc with rfl | hc
   ·rw[eb]at fr;cases fr
   ·rw[hc]at fr;cases fr
def CQ(P:Program)(w:World):D3:=λouter H s E e s'=>∃ (ea:Addr) (cls:Value) (H':Hp),e=.ref ea/\s'.os=s.os/\AllBare s'.gens/\Un (CV outer) [] H H' s.heap s'.heap/\HOk P w H' s'.heap/\Fly (λa=>s.heap.get? a≠none) H' s'.heap ea cls/\E cls none H'
theorem WJ{P:Program}{w:World}{outer:List Env}{H:Hp}{s:Shared}{e:Value}{s':Shared}(h:CQ P w outer H s (λ_ _ _=>False) e s'):False:=by
 obtain⟨_,_,_,_,_,_,_,_,_,f⟩:=h
 exact f
theorem XOk.passes{E:St->XK}(x:XOk X E):D4 (CQ X.prog X.w) X E:=λpins σ H s e s' I h=>by
 obtain⟨ea,cls,H',rfl,os,bare,un,hok,F,q⟩:=h
 refine x.go pins σ H' s' ea cls (I.call' (ch:=[]) os un hok bare λb z=>absurd z (by simp)) (F.mono λa z=> ?_) q
 rcases z with z | ⟨p,hp,rfl⟩
 ·cases q0:X.s₀.heap.get? a with
  | none=>exact absurd q0 z
  | some o =>
   obtain⟨o',e⟩:=I.base.there a o q0 (by rw[x.ex];simp)
   rw[e];simp
 ·rw[(I.pin p hp).1];simp
theorem kP{P:Program}{w:World}:D4 (CQ P w) X (λ_=>E0):=λ_ _ _ _ _ _ _ h=>(WJ h).elim
end
theorem kQ{P:Program}{w:World}{K:W.Frag}{mg:Str->Option Value}{base:Heap}{N:List Str}{qual:Str}{scope:Scope}{f:Addr}{cd:Value}{A:Around}{outer:List Env}{s:Shared}{H:Hp}{E:XK} :
  XOk (FB (CQ P w) P w K mg base N qual scope f cd A outer s H E) (λ_=>E) where
 po:=PassesOwn.leaving
 ex:=rfl
 calm:=rfl
 go:=λpins σ H' s' e cls I F q=>by
  have hfr:(A.deeper (envOfC qual scope s.heap.objs.size f cd)).frames=some (envOfC qual scope s.heap.objs.size f cd::outer):=I.ok.frames
  show wpAny _ _ (leaving _ _) _ _ _
  unfold leaving
  refine wpAny_bind (kN hfr I.stack rfl F (λa z=>I.notbad rfl (kO z)) (λa z=>I.hok.fresh z) λh' N=> ?_)
  have I':=I.noted N
  exact⟨e,cls,H',rfl,I'.os,I'.bare,I'.base,I'.hok,N.fly.mono λa z=>.inl z,q⟩
structure Exc(K:W.Frag)(C:Addr):Prop where
 ex:W.excIn K C [.type "ValueError",.type "Exception",.type "BaseException",.type "object"] "ValueError.__new__"=true
theorem Exc.obj{K:W.Frag}{C:Addr}{h:Heap}(x:Exc K C)(X:K.In h):∃ (tl:List Value) (N:Addr) (nm q:Str) (bs:List Value) (hdct:Bool) (sn:List Str) (sub:List Value) (ab:Bool) (col:Option Bool) (dd:Option Addr) (k0 k1 k2 k3 k5:Option Value) (mN:Str->Option Value),
  h.get? C=some (excClassObj nm q C N bs tl hdct sn sub ab col dd k0 k1 k2 k3 k5 "ValueError.__new__")/\h.Ns N mN/\mN "__init__"=none/\OwnTail h [.type "ValueError",.type "Exception",.type "BaseException",.type "object"] tl:=by
 have q:=x.ex
 unfold W.excIn at q
 split at q
 ·rename_i dd cd sl ho
  split at q
  ·rename_i C' bm k0 k1 k2 k3 n k5 hm hs
   simp only[Bool.and_eq_true,beq_iff_eq,Bool.not_eq_true']at q
   obtain⟨⟨⟨⟨⟨rfl,rfl⟩,hdel⟩,ht⟩,hok⟩,hni⟩:=q
   obtain⟨nm,bs,mro,ns,qn,hd,sn,sub,ab,col,del⟩:=cd
   dsimp only at hm hdel hok hni
   subst hm hdel
   obtain⟨l⟩:=sl
   simp only at hs
   subst hs
   exact⟨bm,ns,nm,qn,bs,hd,sn,sub,ab,col,dd,k0,k1,k2,k3,k5,_,X _ _ ho,.of_isNs (W.isNs_of_in X hok),W.nsMap_none_of_in X hok hni,W.tail_of_in X ht⟩
  ·cases q
 ·cases q
def IR(C:Addr)(E:St->XK)(t:TA):TS:=λ_ σ H=>t σ H λvs H1=>vs.length<=sizeLine/\E σ (.ref C) none H1
section
variable{X:Cx}{E:St->XK}{C:Addr}{x:Str}{np cpos pos:Pos}{e:Expr}{es:List Expr}{t:TA}
theorem M8(hx:XOk X E)(c:Exc X.K C)(hg:Gl X x)(hm:X.mg x=some (.ref C))(ha:PA X (e::es) t)(hdb:(x ==("__debug__":Str))=false:=by decide)
  (he:starEach (e::es) X.env=(false,eval e X.env)::starEach es X.env:=by rfl) (hpl:(backTo cpos (starEach es X.env)).any (·.1)=false:=by rfl) :
  PS X (.Raise (some (.Call (.Name x np) (e::es) [] cpos)) none pos) (IR C E t):=by
 intro pins s σ H D I h
 obtain⟨tl,N,nm,q,bs,hdct,sn,sub,ab,col,dd,k0,k1,k2,k3,k5,mN,hC,hN,hni,T⟩:=c.obj I.mod.kin
 have hpl2:(backTo cpos (starEach (e::es) X.env)).any (·.1)=false:=by
  rw[he]
  show(false || (backTo cpos (starEach es X.env)).any (·.1))=false
  rw[hpl];rfl
 refine wpAny_Raise_call_subT (C:=C) (nm:=nm) (q:=q) (N:=N) (bs:=bs) (bm:=tl) (hdct:=hdct) (sn:=sn) (sub:=sub) (ab:=ab) (col:=col) (dd:=dd) (k0:=k0) (k1:=k1) (k2:=k2) (k3:=k3) (k5:=k5)
  PySem.F.excBase_ValueError (mN:=mN) (T.hasType PySem.F.excBase_ValueError.hasBase) (I.ok.hd hx.calm) hpl2 hni (KR I hg hm ⟨rfl,?_⟩ hdb)
 have hq:=ha cpos pins s σ H _ I h
 rw[he]at hq ⊢
 refine Calls.evalArgs_plain (AM hq λus s1 ⟨vs,H1,I1,r,hz,q1⟩=>⟨rfl,?_,I1.bk _ _ hC,hN.keeps I1.bk,T.keeps I1.bk,λh' ea hM=> ?_⟩)
 ·show us.length<=_
  rw[<-r.length];exact hz
 ·have I2:Inv X pins σ H1 { s1 with heap:=h' }:=I1.kept (t':=s1.toks) hM.keeps
  obtain⟨tt,h1,h2,h3⟩:=hM.there
  refine hx.go pins σ H1 _ ea (.ref C) I2 ⟨λz=>I1.notbad hx.ex hM.new z,I1.hok.nh hM.new,_,_,h1,rfl,rfl,rfl,.inl rfl⟩ q1
end
end L2
namespace L2
section
variable(P:Program)(w:World)(K:W.Frag)(mg:Str->Option Value)(base:Heap)
structure CS(k:Nat)(x:Str)(ps:List Str)(sp:Sp):Prop where
 ex:∃ (f:Addr) (fd:FuncData),FnOk P w K mg base (CQ P w) k f fd ps sp/\mg x=some (.ref f)/\W.keepIn K (.ref f)=true/\Binds K fd ps []
structure BP(C:Addr)(k:Nat)(m:Str)(ps:List Str)(sp:Sp):Prop where
 ex:∃ (f:Addr) (fd:FuncData),FnOk P w K mg base (CQ P w) k f fd ps sp/\MW K C m f/\Binds K fd ps []
structure IS(C:Addr)(k:Nat)(x:Str)(ps:List Str)(sp:Sp):Prop where
 ex:∃ (f:Addr) (fd:FuncData),FnOk P w K mg base (CQ P w) k f fd ps sp/\Mk K C f/\mg x=some (.ref C)/\Binds K fd ps []
end
section
variable{X:Cx}{E:St->XK}{k:Nat}{x m:Str}{ps:List Str}{sp:Sp}{C:Addr}{p pos apos:Pos}{e o:Expr}{es:List Expr}{ta:TE}{t:TA}
theorem BB(c:CS X.prog X.w X.K X.mg X.base k x ps sp)(hr:Room k X.A)(hp:D4 (CQ X.prog X.w) X E)(hg:Gl X x)(ha:PA X (e::es) t)(hdb:(x ==("__debug__":Str))=false:=by decide)
  (he:starEach (e::es) X.env=(false,eval e X.env)::starEach es X.env:=by rfl) (hpl:(backTo pos (starEach es X.env)).any (·.1)=false:=by rfl):PE X (.Call (.Name x p) (e::es) [] pos) (A6 sp [] E t):=by
 obtain⟨f,fd,F,hm,hk,hb⟩:=c.ex
 exact iU F hr hg hm hk hb .nil hp ha hdb he hpl
theorem CJ{pl:Sem Bool}(he:PE X o ta)(cl:Cls X.K C)(c:BP X.prog X.w X.K X.mg X.base C k m ps sp)(hr:Room k X.A)(hp:D4 (CQ X.prog X.w) X E)(ha:PA X (e::es) t)
  (hst:starEach (e::es) X.env=(false,eval e X.env)::starEach es X.env:=by rfl) (hpl:(backTo pos (starEach es X.env)).any (·.1)=false:=by rfl)
  (ht:eval (.Call (.Attribute o m apos) (e::es) [] pos) X.env=(do
   let ov ← eval o X.env
   standAt apos.atName
   let (f,first) ← holding [ov] (getMethod ov m pl)
   callWith pos f first (backTo pos (starEach (e::es) X.env)) (backToKw pos (keywordEach [] X.env))):=by rfl):PE X (.Call (.Attribute o m apos) (e::es) [] pos) (BF C m sp [] E ta t):=by
 obtain⟨f,fd,F,hm,hb⟩:=c.ex
 exact iV he cl hm F hr hb .nil hp ha hst hpl ht
theorem EI{pl:Sem Bool}(he:PE X o ta)(cl:Cls X.K C)(c:BP X.prog X.w X.K X.mg X.base C k m ps sp)(hr:Room k X.A)(hp:D4 (CQ X.prog X.w) X E)
  (ht:eval (.Call (.Attribute o m apos) [] [] pos) X.env=(do
   let ov ← eval o X.env
   standAt apos.atName
   let (f,first) ← holding [ov] (getMethod ov m pl)
   callWith pos f first (backTo pos (starEach [] X.env)) (backToKw pos (keywordEach [] X.env))):=by rfl):PE X (.Call (.Attribute o m apos) [] [] pos) (BF C m sp [] E ta AE):=by
 obtain⟨f,fd,F,hm,hb⟩:=c.ex
 exact iW he cl hm F hr hb .nil hp ht
theorem M9(c:IS X.prog X.w X.K X.mg X.base C k x ps sp)(hr:Room (k+1) X.A)(hp:D4 (CQ X.prog X.w) X E)(hg:Gl X x)(ha:PA X (e::es) t)(hdb:(x ==("__debug__":Str))=false:=by decide)
  (he:starEach (e::es) X.env=(false,eval e X.env)::starEach es X.env:=by rfl) (hpl:(backTo pos (starEach es X.env)).any (·.1)=false:=by rfl):PE X (.Call (.Name x p) (e::es) [] pos) (FA C sp [] E t):=by
 obtain⟨f,fd,F,M,hm,hb⟩:=c.ex
 exact iX M F hr hg hm hb .nil hp ha hdb he hpl
theorem kR(c:IS X.prog X.w X.K X.mg X.base C k x ps sp)(hr:Room (k+1) X.A)(hp:D4 (CQ X.prog X.w) X E)(hg:Gl X x)(hdb:(x ==("__debug__":Str))=false:=by decide):PE X (.Call (.Name x p) [] [] pos) (FA C sp [] E AE):=by
 obtain⟨f,fd,F,M,hm,hb⟩:=c.ex
 exact iY M F hr hg hm hb .nil hp hdb
end
theorem Fun.okE{P:Program}{w:World}{K:W.Frag}{mg:Str->Option Value}{base:Heap}{x qual:Str}{st:Stmt}{f:Addr}{fd:FuncData}{N ps:List Str}{k:Nat}{sp:Sp}(F:Fun K x qual st f fd)(S:FnScope N ps (AO st))(len:∀ vs H Q E,sp vs H Q E->vs.length=ps.length)
  (hbody:∀ (cdv:Value) (A:Around) (outer:List Env) (s:Shared) (H:Hp) (vs:List V) (Q:VK) (E:XK),Room k (A.deeper (envOfC qual (AO st) s.heap.objs.size f cdv))->sp vs H Q E →
   ∃ t,PSs (FB (CQ P w) P w K mg base N qual (AO st) f cdv A outer s H E) (A8 st) t/\t { nx:=λ_ H'=>Q .non H',rt:=Q } (A5 N vs) H):FnOk P w K mg base (CQ P w) (k+1) f fd ps sp:=by
 obtain⟨oc,od,kV,doc,pm,an,cdv,ct,osl,rfl,l,c⟩:=F.ex
 exact VA l c S len λA outer s H vs Q E hr h=>hbody cdv A outer s H vs Q E hr h
def GV(mg:Str->Option Value)(x:Str)(v:V):Prop:=∃ u,mg x=some u/\RelV v u
abbrev Cx.tri(X:Cx)(pn:List (Addr × Obj))(xe:Value->Shared->Prop):Cx:={ X with pn:=pn,xe:=xe }
abbrev Cx.hand(X:Cx)(e:Addr):Cx:={ X with A:=X.A.mark (some (.ref e)),calm:=false,xe:=λ_ _=>False }
section
variable{X:Cx}{pins:List (Addr × Obj)}{σ:St}{H:Hp}{s:Shared}
theorem Cx.Ok.tri{pn:List (Addr × Obj)}{xe:Value->Shared->Prop}(ok:X.Ok):(X.tri pn xe).Ok :=
 ⟨ok.mod,ok.kind,ok.glob,ok.blt,ok.above,ok.inj,ok.has,ok.cab,ok.hd,ok.frames,ok.stk,ok.exf,ok.bs,ok.bsz,ok.noex,ok.exfs,ok.funs,ok.frf⟩
theorem Inv.tri{xe:Value->Shared->Prop}(I:Inv X pins σ H s):Inv (X.tri (X.pn++pins) xe) [] σ H s :=
 ⟨I.ok.tri,I.os,I.bare,I.base,I.loc,I.cell,I.free,I.freeC,λp hp=>I.pin p (by simpa using hp),I.hok,I.len⟩
theorem Cx.Ok.untri{pn:List (Addr × Obj)}{xe:Value->Shared->Prop}(ok:(X.tri pn xe).Ok):X.Ok :=
 ⟨ok.mod,ok.kind,ok.glob,ok.blt,ok.above,ok.inj,ok.has,ok.cab,ok.hd,ok.frames,ok.stk,ok.exf,ok.bs,ok.bsz,ok.noex,ok.exfs,ok.funs,ok.frf⟩
theorem Inv.untri{pl:List (Addr × Obj)}{xe:Value->Shared->Prop}(I:Inv (X.tri (X.pn++pins) xe) pl σ H s):Inv X pins σ H s :=
 ⟨I.ok.untri,I.os,I.bare,I.base,I.loc,I.cell,I.free,I.freeC,λp hp=>I.pin p (List.mem_append_left _ hp),I.hok,I.len⟩
theorem Cx.Ok.hand{e:Addr}(ok:X.Ok):(X.hand e).Ok :=
 ⟨ok.mod,ok.kind,ok.glob,ok.blt,ok.above,ok.inj,ok.has,ok.cab,(λz=>nomatch z),ok.frames,ok.stk,ok.exf,ok.bs,ok.bsz,ok.noex,ok.exfs,ok.funs,ok.frf⟩
theorem Inv.hand{e:Addr}(I:Inv X pins σ H s):Inv (X.hand e) pins σ H s:=⟨I.ok.hand,I.os,I.bare,I.base,I.loc,I.cell,I.free,I.freeC,I.pin,I.hok,I.len⟩
theorem Inv.unhand{e:Addr}(ok:X.Ok)(I:Inv (X.hand e) pins σ H s):Inv X pins σ H s:=⟨ok,I.os,I.bare,I.base,I.loc,I.cell,I.free,I.freeC,I.pin,I.hok,I.len⟩
end
def K8(e:Addr)(cls:Value):Heap->Prop:=λh=>∃ oe vs,h.get? e=some oe/\oe.cls=cls/\oe.dict=none/\oe.data=.fields vs
abbrev TH:=Value->Ends->St->Hp->Prop
def Ends.drop(D:Ends)(i:Nat):Ends:={ nx:=λσ H=>D.nx (σ.set i none) H,rt:=D.rt,bk:=λσ H=>D.bk (σ.set i none) H,ct:=λσ H=>D.ct (σ.set i none) H }
def kS(tb:(St->XK)->TS)(th:TH):TS:=λD σ H=>tb (λσ' cls _ H'=>th cls D σ' H') D σ H
section
variable{X:Cx}{hs:List ExceptHandler}{h₀:ExceptHandler}{th:TH}{body:List Stmt}{tb:(St->XK)->TS}{pos:Pos}
theorem SP.unhand{pins:List (Addr × Obj)}{D:Ends}{e:Addr}{f:Flow}{s:Shared}(ok:X.Ok)(h:SP (X.hand e) pins D f s):SP X pins D f s:=by
 cases f with
 | next=>obtain⟨σ1,H1,I1,q⟩:=h;exact⟨σ1,H1,I1.unhand ok,q⟩
 | brk=>obtain⟨σ1,H1,I1,q⟩:=h;exact⟨σ1,H1,I1.unhand ok,q⟩
 | cont=>obtain⟨σ1,H1,I1,q⟩:=h;exact⟨σ1,H1,I1.unhand ok,q⟩
 | ret u=>obtain⟨v,σ1,H1,I1,r,q⟩:=h;exact⟨v,σ1,H1,I1.unhand ok,r,q⟩
end
end L2
namespace L2
mutual
inductive Rep(K:W.Frag)(H:Hp):V->PyData->Prop
 | non:Rep K H .non .none
 | bl (b:Bool):Rep K H (.bl b) (.bool b)
 | int (i:Int):Rep K H (.int i) (.int i)
 | str (x:Str):Rep K H (.str x) (.str x)
 | lst {a:Addr} {xs:List V} {ds:List PyData}:SqL K H a xs->RepAll K H xs ds->Rep K H (.ref a) (.list ds)
 | tup {a:Addr} {xs:List V} {ds:List PyData}:SqT K H a xs->RepAll K H xs ds->Rep K H (.ref a) (.tuple ds)
inductive RepAll(K:W.Frag)(H:Hp):List V->List PyData->Prop
 | nil:RepAll K H [] []
 | cons {v:V} {d:PyData} {vs:List V} {ds:List PyData}:Rep K H v d->RepAll K H vs ds->RepAll K H (v::vs) (d::ds)
end
section
variable{X:Cx}{pins:List (Addr × Obj)}{σ:St}{H:Hp}{s:Shared}
mutual
theorem Rep.reads(I:Inv X pins σ H s):∀ {v:V} {d:PyData} {u:Value},Rep X.K H v d->RelV v u->∃ as,Reads s.heap u d as
 | _,_,_,.non,r=>by cases (show _=Value.none from r);exact⟨_,.none⟩
 | _,_,_,.bl b,r=>by cases (show _=Value.bool b from r);exact⟨_,.bool b⟩
 | _,_,_,.int i,r=>by obtain⟨t,e⟩:=(show ∃ t,_=Value.int i t from r);cases e;exact⟨_,.int i t⟩
 | _,_,_,.str x,r=>by obtain⟨t,e⟩:=(show ∃ t,_=Value.str x t from r);cases e;exact⟨_,.str x t⟩
 | _,_,_,.lst (a:=a) h hr,r=>by
  cases (show _=Value.ref a from r)
  obtain⟨its,rv,p,_⟩:=I.list h
  obtain⟨as,q⟩:=RepAll.reads I hr rv
  obtain⟨o,e1,e2,n,e3⟩:=p.isList
  exact⟨_,.list e1 e2 e3 q⟩
 | _,_,_,.tup (a:=a) h hr,r=>by
  cases (show _=Value.ref a from r)
  obtain⟨its,rv,p,_⟩:=I.tuple h
  obtain⟨as,q⟩:=RepAll.reads I hr rv
  obtain⟨o,e1,e2,n,e3⟩:=p
  exact⟨_,.tuple e1 e2 e3 q⟩
theorem RepAll.reads(I:Inv X pins σ H s):∀ {vs:List V} {ds:List PyData} {us:List Value},RepAll X.K H vs ds->Vals vs us->∃ as,ReadsAll s.heap us ds as
 | _,_,_,.nil,.nil=>⟨_,.nil⟩
 | _,_,_,.cons h hr,.cons r rr=>by
  obtain⟨as,q⟩:=Rep.reads I h r
  obtain⟨bs,q2⟩:=RepAll.reads I hr rr
  exact⟨_,.cons q q2⟩
end
end
abbrev shp(d:PyData):Prop:=PySem.SeqAt.shaped d=true
def CG(K:W.Frag):R2:=λx y H Q=>if CZ x y=true then Q (.bl (decide (x=y))) H else ∃ d e,Rep K H x d/\Rep K H y e/\shp d/\shp e/\Q (.bl (PyData.eqv d e)) H
def B8(K:W.Frag):R2:=λx y H Q=>if CZ x y=true then Q (.bl (!decide (x=y))) H else ∃ d e,Rep K H x d/\Rep K H y e/\shp d/\shp e/\Q (.bl (!PyData.eqv d e)) H
section
variable{X:Cx}
theorem FD(hu:X.A.units+64<cLine):OpR X (compareOp .Eq) (CG X.K):=by
 intro pins s σ H x y v u Q I rx ry h
 unfold CG at h
 split at h
 ·rename_i hs
  exact h9 pins s σ H x y v u Q I rx ry ⟨hs,h⟩
 ·obtain⟨d,e,rd,re,sd,se,q⟩:=h
  obtain⟨as,ra⟩:=rd.reads I rx
  obtain⟨bs,rb⟩:=re.reads I ry
  exact eq_dataH ra rb sd se hu ⟨.bl _,H,I,rfl,q⟩
theorem HD(hu:X.A.units+64<cLine):OpR X (compareOp .NotEq) (B8 X.K):=by
 intro pins s σ H x y v u Q I rx ry h
 unfold B8 at h
 split at h
 ·rename_i hs
  exact iA pins s σ H x y v u Q I rx ry ⟨hs,h⟩
 ·obtain⟨d,e,rd,re,sd,se,q⟩:=h
  obtain⟨as,ra⟩:=rd.reads I rx
  obtain⟨bs,rb⟩:=re.reads I ry
  exact ne_dataH ra rb sd se hu ⟨.bl _,H,I,rfl,q⟩
def O7(K:W.Frag):R2:=λx y H Q=>∃ a b ys,x=.ref a/\y=.ref b/\SqT K H a []/\SqT K H b ys/\Q (.ref b) H
theorem kT:OpR X (binaryOp .Add) (O7 X.K):=by
 intro pins s σ H x y v u Q I rx ry h
 obtain⟨a,b,ys,rfl,rfl,ha,hb,q⟩:=h
 cases rx
 cases ry
 obtain⟨its,r1,⟨⟨c1,c2,c3,c4⟩,e1,e2,n1,e3⟩,_⟩:=I.tuple ha
 obtain⟨its2,r2,⟨⟨d1,d2,d3,d4⟩,f1,f2,n2,f3⟩,_⟩:=I.tuple hb
 obtain rfl:c1=_:=e2
 obtain rfl:c3=_:=e3
 obtain rfl:d1=_:=f2
 obtain rfl:d3=_:=f3
 cases r1
 exact concat_meets ⟨_,e1,rfl⟩ ⟨_,f1,rfl⟩ noFill_tuple_add seq_tuple_add PySem.F.slot_tuple_add PySem.F.entry_tuple_add (PySem.F.args_tuple_add_2 _ _) (tuple_addW0 a b #[] its2.toArray n1 n2 c2 d2 c4 d4 rfl) ⟨e1,f1,.ref b,H,I,rfl,q⟩
def CU(K:W.Frag):R2:=λx y H Q=>match x,y with
 | .int i,.int j=>Q (.int (i+j)) H
 | .str i,.str j=>i.length+j.length<=sizeLine/\Q (.str (i++j)) H
 | .ref _,.ref _=>OY x y H Q\/OU K x y H Q\/O7 K x y H Q
 | _,_=>False
theorem DD:OpR X (binaryOp .Add) (CU X.K):=by
 intro pins s σ H x y v u Q I rx ry h
 cases x<;>cases y<;>simp only[CU]at h
 ·exact hG pins s σ H _ _ v u Q I rx ry ⟨_,_,rfl,rfl,h⟩
 ·exact iF pins s σ H _ _ v u Q I rx ry ⟨_,_,rfl,rfl,h⟩
 ·rcases h with h | h
  ·exact jV pins s σ H _ _ v u Q I rx ry h
  rcases h with h | h
  ·exact jC pins s σ H _ _ v u Q I rx ry h
  ·exact kT pins s σ H _ _ v u Q I rx ry h
def FW:R2:=λx y H Q=>match x,y with
 | .int i,.int j=>Q (.bl (decide (i<j))) H
 | .str i,.str j=>Q (.bl (decide (i.cps.toList<j.cps.toList))) H
 | _,_=>False
def GR:R2:=λx y H Q=>match x,y with
 | .int i,.int j=>Q (.bl (decide (i<=j))) H
 | .str i,.str j=>Q (.bl (!decide (j.cps.toList<i.cps.toList))) H
 | _,_=>False
end
end L2
namespace L2
theorem kU:fillsNumberSlot (.type "tuple") "mul"=pure false :=
 PySem.fillsNumberSlot_seq (id:="tuple.__mul__") (r:=some (.builtin "tuple.__rmul__")) F.slot_tuple_mul.lookup (by decide +kernel) F.slot_tuple_rmul.lookup (by decide +kernel)
theorem kW:seqRepeat? (.type "tuple")=pure (some (.builtin "tuple.__mul__")):=by
 unfold seqRepeat?
 rw[PySem.seqSlot_of (T:="tuple") (name:="__mul__") (id:="tuple.__mul__") F.slot_tuple_mul.lookup (by decide +kernel),PySem.seqSlot_of (T:="tuple") (name:="__rmul__") (id:="tuple.__rmul__") F.slot_tuple_rmul.lookup (by decide +kernel)]
 rfl
theorem kX(a:Int)(t:Tok)(l:Addr)(items:Array Value)(dd:Option Addr)(n:Nat)(sl:Array (Option Value)) :
  Meets (Builtin.«int.__rmul__» ⟨[.int a t,.ref l],[]⟩) (λ_ R s=>s.heap.get? l=some ⟨.type "tuple",dd,.seq items n,sl⟩/\R (.ok (.ret Value.notImplemented)) s) :=
 .of_wp λprog w A R s h=>by obtain⟨hp,g,d,tk,os⟩:=s;obtain⟨hl,h⟩:=h;wp_walk;exact⟨_,rfl,h⟩
theorem kY(l:Addr)(items:Array Value)(dd:Option Addr)(n:Nat)(sl:Array (Option Value))(x:Int)(u:Tok)(h1:1<x)(h2:x<2 ^ 63)(hne:items.isEmpty=false)(hz:items.size * x.toNat<=sizeLine) :
  Meets (Builtin.«tuple.__mul__» ⟨[.ref l,.int x u],[]⟩) (λ_ R s=>s.heap.get? l=some ⟨.type "tuple",dd,.seq items n,sl⟩ ∧
   R (.ok (.ret (Value.ref s.heap.objs.size))) { s with heap:=s.heap.push { cls:=Value.type "tuple",data:=Data.seq (List.foldl (λx1 x2=>x1++x2) #[] (List.replicate x.toNat items)) } }) :=
 .of_wp λprog w A R s h=>by
  obtain⟨hp,g,d,tk,os⟩:=s;obtain⟨hl,h⟩:=h
  have hsl:(sizeLine:Nat)<=(2 ^ 63 - 1) / 8:=by decide
  have hlen:(List.foldl (λx1 x2=>x1++x2) #[] (List.replicate x.toNat items)).size<=sizeLine:=by
   have:=M0 items.toList x.toNat []
   simp only[List.nil_append,Array.toArray_toList]at this
   rw[this]
   simp only[List.size_toArray,List.length_flatten,List.map_replicate,List.sum_replicate_nat,Array.length_toList]
   rw[Nat.mul_comm];exact hz
  have hx:∃ N:Nat,(items.size:Int) * x=(N:Int)/\N<=sizeLine:=⟨items.size * x.toNat,by rw[Int.natCast_mul,Int.toNat_of_nonneg (by omega)],hz⟩
  obtain⟨N,hx,hN⟩:=hx
  unfold Builtin.«tuple.__mul__»
  wp_walk
  refine wpAny_ite_false (by simp;omega) ?_
  wp_walk
  refine wpAny_ite_false (by simp only[hne,Bool.false_or];simp;omega) ?_
  refine wpAny_ite_false (by simp only[hne,Bool.or_false];simp;omega) ?_
  refine wpAny_ite_false (by rw[hx];exact decide_eq_false (by omega)) ?_
  refine wpAny_ite_false (by rw[hx];unfold Builtin.Tuple.tupleTooMany;simp;omega) ?_
  wp_walk
  exact⟨_,rfl,h⟩
theorem kZ(l:Addr)(items:Array Value)(dd:Option Addr)(n:Nat)(sl:Array (Option Value))(u:Tok) :
  Meets (Builtin.«tuple.__mul__» ⟨[.ref l,.int 1 u],[]⟩) (λ_ R s=>s.heap.get? l=some ⟨.type "tuple",dd,.seq items n,sl⟩/\R (.ok (.ret (Value.ref l))) s) :=
 .of_wp λprog w A R s h=>by
  obtain⟨hp,g,d,tk,os⟩:=s;obtain⟨hl,h⟩:=h
  unfold Builtin.«tuple.__mul__»
  wp_walk
  exact⟨_,rfl,h⟩
def O8(K:W.Frag):R2:=λx y H Q=>∃ a k xs,x=.ref a/\y=.int k/\SqT K H a xs/\xs≠[]/\1<=k/\k<2 ^ 63/\xs.length * k.toNat<=sizeLine ∧
 (k=1->Q (.ref a) H)/\(k≠1->∀ p,H p=none->Q (.ref p) (upd H p (.tup (List.replicate k.toNat xs).flatten)))
section
variable{X:Cx}
theorem Inv.tnew{pins:List (Addr × Obj)}{σ:St}{H:Hp}{s:Shared}{ys:List V}{its:List Value}(I:Inv X pins σ H s)(hv:Vals ys its)(hz:ys.length<=sizeLine) :
  Inv X pins σ (upd H s.heap.objs.size (.tup ys)) { s with heap:=s.heap.push { cls:=.type "tuple",data:=.seq its.toArray } } :=
 I.laid (t':=s.toks) (λ_ _ q=>Heap.get?_push_of_some _ q) (Nat.le_refl _) ⟨hz,its,hv,_,Heap.get?_push_size _ rfl,rfl,0,rfl⟩
theorem k7:OpR X (binaryOp .Mult) (O8 X.K):=by
 intro pins s σ H x y v u Q I rx ry h
 obtain⟨a,k,xs,rfl,rfl,hx,hne,h1,h2,hz,q1,q2⟩:=h
 cases rx
 obtain⟨t,rfl⟩:=ry
 obtain⟨its,r,⟨⟨c1,c2,c3,c4⟩,e1,e2,n,e3⟩,_⟩:=I.tuple hx
 obtain rfl:c1=_:=e2
 obtain rfl:c3=_:=e3
 have hl:=r.length
 have he:its.toArray.isEmpty=false:=by
  cases its with
  | nil=>exact absurd (List.length_eq_zero_iff.mp hl) hne
  | cons b t=>rfl
 refine wpAny_binaryOp_repeat_ref (T:="tuple") (U:="int") (by decide) ⟨_,e1,rfl⟩ (λs'=>typeIs_int s' k t) kU F.fills_int_mul F.slot_int_rmul kW F.slot_int_index.lookup
  (call_meets F.slot_int_rmul (typeIs_int s k t) F.entry_int_rmul (F.args_int_rmul_2 _ _) (kX k t a its.toArray c2 n c4) ⟨e1,rfl,⟨_,e1,rfl⟩,?_⟩)
 by_cases hk:k=1
 ·subst hk
  exact call_meets F.slot_tuple_mul ⟨_,e1,rfl⟩ F.entry_tuple_mul (F.args_tuple_mul_2 _ _) (kZ a its.toArray c2 n c4 t) ⟨e1,.ref a,H,I,rfl,q1 rfl⟩
 ·refine call_meets F.slot_tuple_mul ⟨_,e1,rfl⟩ F.entry_tuple_mul (F.args_tuple_mul_2 _ _) (kY a its.toArray c2 n c4 k t (by omega) h2 he (by rw[List.size_toArray,<-hl];exact hz)) ⟨e1,?_⟩
  have f0:=M0 its k.toNat []
  rw[List.nil_append]at f0
  rw[f0]
  exact⟨.ref _,_,I.tnew (r.rep k.toNat) (by rw[VS,Nat.mul_comm];exact hz),rfl,q2 hk _ I.fresh⟩
abbrev K9:R2:=E9 λi j=>.int (i - j)
abbrev FX:R2:=rI (λ_ j=>0<j) λi j=>.int (i % j)
abbrev WK:R2:=rI UO λi j=>.int (i / j)
abbrev NA:R2:=rI OP λi j=>.int (i ^ j.toNat)
abbrev k8:V->Hp->VK->Prop:=rU λi=>.int (-i)
abbrev lA:MK:=OM λi j=>i+j
def D5(z:Str)(k:Int):Str:=if k<1 then Str.empty else if(k == 1 || z.length == 0)=true then z else⟨(List.replicate k.toNat z.cps).foldl (· ++·) #[]⟩
theorem lB(z:Str)(k:Nat):(Str.mk ((List.replicate k z.cps).foldl (· ++·) #[])).length=k * z.length:=by
 have e:∀ (m:Nat) (acc:Array Nat),((List.replicate m z.cps).foldl (· ++·) acc).size=acc.size+m * z.cps.size:=λm=>by
  induction m with
  | zero=>intro acc;simp
  | succ m ih=>intro acc;rw[List.replicate_succ,List.foldl_cons,ih,Array.size_append,Nat.succ_mul];omega
 have:=e k #[]
 simpa [Str.length]using this
def lC:R2:=λx y H Q=>∃ z k,x=.str z/\y=.int k/\0<=k/\k<=1000/\z.length<=1000/\Q (.str (D5 z k)) H
theorem lD:OpR X (binaryOp .Mult) lC:=by
 intro pins s σ H x y v u Q I rx ry h
 obtain⟨z,k,rfl,rfl,h1,h2,h3,q⟩:=h
 obtain⟨t,rfl⟩:=rx
 obtain⟨t',rfl⟩:=ry
 refine PySem.P.mul_str (by simp;omega) (λa _=> ?_) (λa _=> ?_) ?_
 ·have:(1000:Int)<=(2 ^ 63 - 1) / k:=(Int.le_ediv_iff_mul_le (by omega)).mpr (by omega)
  omega
 ·have h4:z.length * k.toNat<=1000 * 1000:=Nat.mul_le_mul h3 (by omega)
  have h5:(1000 * 1000:Nat)<=sizeLine:=by decide
  unfold Builtin.Str.tooLong
  exact decide_eq_false (by omega)
 ·unfold D5 at q
  split
  ·rename_i c
   rw[if_pos c]at q
   exact⟨by show(0:Nat)<=sizeLine;omega,.str _,H,I.tok _,⟨_,rfl⟩,q⟩
  ·rename_i c
   rw[if_neg c]at q
   split
   ·rename_i d
    rw[if_pos d]at q
    exact⟨.str _,H,I,⟨_,rfl⟩,q⟩
   ·rename_i d
    rw[if_neg d]at q
    exact⟨by rw[lB];have:=Nat.mul_le_mul (show k.toNat<=1000 by omega) h3;show _<=2 ^ 24;omega,.str _,H,I.tok _,⟨_,rfl⟩,q⟩
def DU(K:W.Frag):R2:=λx y H Q=>match x,y with
 | .int i,.int j=>CMul i j/\Q (.int (i * j)) H
 | .str z,.int k=>0<=k/\k<=1000/\z.length<=1000/\Q (.str (D5 z k)) H
 | .ref _,.int _=>OZ x y H Q\/O8 K x y H Q
 | _,_=>False
theorem FE:OpR X (binaryOp .Mult) (DU X.K):=by
 intro pins s σ H x y v u Q I rx ry h
 cases x<;>cases y<;>simp only[DU]at h
 ·exact hV pins s σ H _ _ v u Q I rx ry ⟨_,_,rfl,rfl,h⟩
 ·exact lD pins s σ H _ _ v u Q I rx ry ⟨_,_,rfl,rfl,h⟩
 ·rcases h with h | h
  ·exact jW pins s σ H _ _ v u Q I rx ry h
  ·exact k7 pins s σ H _ _ v u Q I rx ry h
def LA:R2:=λx y H Q=>match x,y with
 | .int i,.int j=>Q (.bl (decide (j<i))) H
 | _,_=>False
def lE:R2:=λx y H Q=>match x,y with
 | .int i,.int j=>Q (.bl (decide (j<=i))) H
 | _,_=>False
theorem LB:OpR X (compareOp .Lt) FW:=by
 intro pins s σ H x y v u Q I rx ry h
 cases x<;>cases y<;>simp only[FW]at h
 ·exact iB pins s σ H _ _ v u Q I rx ry ⟨_,_,rfl,rfl,h⟩
 ·obtain⟨t,rfl⟩:=rx
  obtain⟨t',rfl⟩:=ry
  exact PySem.P.lt_str ⟨.bl _,H,I,rfl,h⟩
theorem NB:OpR X (compareOp .LtE) GR:=by
 intro pins s σ H x y v u Q I rx ry h
 cases x<;>cases y<;>simp only[GR]at h
 ·exact iC pins s σ H _ _ v u Q I rx ry ⟨_,_,rfl,rfl,h⟩
 ·obtain⟨t,rfl⟩:=rx
  obtain⟨t',rfl⟩:=ry
  exact PySem.P.le_str ⟨.bl _,H,I,rfl,h⟩
theorem WL:OpR X (compareOp .Gt) LA:=by
 intro pins s σ H x y v u Q I rx ry h
 cases x<;>cases y<;>simp only[LA]at h
 exact iD pins s σ H _ _ v u Q I rx ry ⟨_,_,rfl,rfl,h⟩
abbrev HE:R2:=λx y H Q=>y=.non/\Q (.bl (decide (x=.non))) H
abbrev WM:R2:=λx y H Q=>y=.non/\Q (.bl (!decide (x=.non))) H
variable{a:Expr}{ta:TE}{tA:TT}{pos:Pos}
abbrev EJ(K:W.Frag)(ta:TE):TT:=λσ H Q=>ta σ H λx H'=>∃ k,EF K x H' k/\Q k H'
def AT(K:W.Frag):R2:=VM K
theorem AV:IxR X (AT X.K):=jH
def lF:V->Option Int->Option Int->Hp->VK->Prop:=λx lo hi H Q=>∃ z,x=.str z/\z.length<=sizeLine/\Q (.str (Txt.slice z lo hi)) H
theorem WN{v:Value}{lo:Option Int}(p:IsPart v lo):∃ l:Option (Int × Tok),v=partValue l/\l.map (·.1)=lo:=by
 cases p with
 | none=>exact⟨none,rfl,rfl⟩
 | int i t=>exact⟨some (i,t),rfl,rfl⟩
theorem lH:SlR X lF:=by
 intro pins s σ H x v vl vu lo hi sl Q I rx hs pl pu h
 obtain⟨z,rfl,hz,q⟩:=h
 obtain⟨t,rfl⟩:=rx
 obtain⟨l,rfl,rfl⟩:=WN pl
 obtain⟨u,rfl,rfl⟩:=WN pu
 refine⟨"str",_,PySem.F.slot_str_getitem.lookup,typeIs_str _ _ _,?_⟩
 exact wpAny_getItem_str_slice (l:=l) (u:=u) (st:=none) hs rfl (post_val_or_str ⟨Nat.le_trans (Txt.slice_le z _ _) hz,λt' k=>⟨.str _,H,I.tok k,⟨t',rfl⟩,q⟩⟩)
def NC(K:W.Frag):V->Option Int->Option Int->Hp->VK->Prop:=λx lo hi H Q=>match x with
 | .str z=>z.length<=sizeLine/\Q (.str (Txt.slice z lo hi)) H
 | _=>VO K x lo hi H Q\/VF K x lo hi H Q
theorem lI:SlR X (NC X.K):=by
 intro pins s σ H x v vl vu lo hi sl Q I rx hs pl pu h
 cases x<;>first
  | exact lH pins s σ H _ v vl vu lo hi sl Q I rx hs pl pu ⟨_,rfl,h⟩
  | exact(SlR.or jM jB) pins s σ H _ v vl vu lo hi sl Q I rx hs pl pu h
abbrev LC:V->V->V->Hp->(Hp->Prop)->Prop:=VN
theorem ND:OJ X LC:=jJ
def EK(K:W.Frag)(tl:TE):TI:=λσ H R=>tl σ H λx H1=>∃ a,x=.ref a/\(((∃ xs,SqL K H1 a xs)/\R (GK K a) H1)\/((∃ xs,SqT K H1 a xs)/\R (GL K a) H1))
theorem PI.or{tg it:Expr}{w1 w2:TI}(h1:PI X tg it w1)(h2:PI X tg it w2):PI X tg it (λσ H R=>w1 σ H R\/w2 σ H R):=λpins s σ H R I h=>h.elim (h1 pins s σ H R I) (h2 pins s σ H R I)
def C8(K:W.Frag):List V->Hp->VK->Prop:=λxs H Q=>∃ x n,xs=[x]/\MT K x H n/\Q (.int n) H
theorem DV:CallR X (.builtin "len") (C8 X.K):=iJ
def GS(K:W.Frag):List V->Hp->VK->Prop:=λxs H Q=>∃ p ys,xs=[.ref p]/\(SqL K H p ys\/SqT K H p ys)/\∀ l,H l=none->Q (.ref l) (upd H l (.lst ys))
theorem LD:CallR X (.type "list") (GS X.K):=jP
def IT(K:W.Frag):List V->Hp->VK->Prop:=λxs H Q=>∃ p ys,xs=[.ref p]/\((SqL K H p ys/\∀ l,H l=none->Q (.ref l) (upd H l (.tup ys)))\/(SqT K H p ys/\Q (.ref p) H))
theorem O9:CallR X (.type "tuple") (IT X.K):=jQ
def LE(K:W.Frag):List V->Hp->VK->Prop:=λxs H Q=>(∃ i,xs=[.int i]/\Q (.int i) H)\/∃ k,xs=[.bl k]/\Q (.int (if k then 1 else 0)) H
abbrev HF:=VR
end
end L2
namespace L2
section
variable{X:Cx}{tg a:Expr}{ta:TE}{pos:Pos}
theorem FY{l:Expr}{tl:TE}(hl:PE X l tl):PI X tg l (EK X.K tl):=by
 intro pins s σ H R I h
 refine AM (hl pins s σ H _ I h) λv s1 ⟨x,H1,I1,r1,q1⟩=> ?_
 obtain⟨a,e,q1⟩:=q1
 subst e
 cases r1
 have fp1:∀ b∈[s1.heap.objs.size],FpOk X pins H1 b:=λb hb=>by
  have e:b=s1.heap.objs.size:=by simpa using hb
  subst e
  exact I1.fpOk (Nat.le_refl _) (I1.hok.fresh (Nat.le_refl _))
 rcases q1 with⟨⟨xs,hq⟩,q⟩ | ⟨⟨xs,hq⟩,q⟩
 ·obtain⟨its,rv,p,hz⟩:=I1.list hq
  refine wpAny_pyIter_list p.isList ?_
  exact⟨s1.heap.objs.size,[s1.heap.objs.size],_,_,H1,rfl,I1.kept (t':=s1.toks) λb o e=>Heap.get?_push_of_some _ e,gU a _,⟨_,Heap.get?_push_size _ rfl,rfl,rfl⟩,fp1,q⟩
 ·obtain⟨its,rv,p,hz⟩:=I1.tuple hq
  refine wpAny_pyIter_tuple (show s1.heap.IsTuple a its.toArray from p) ?_
  exact⟨s1.heap.objs.size,[s1.heap.objs.size],_,_,H1,rfl,I1.kept (t':=s1.toks) λb o e=>Heap.get?_push_of_some _ e,gW a _,⟨_,Heap.get?_push_size _ rfl,rfl,rfl⟩,fp1,q⟩
def PB(K:W.Frag)(ta:TE):TE:=λσ H Q=>ta σ H λx H1=>∃ k,EF K x H1 k/\Q (.bl (!k)) H1
theorem lJ(ha:PE X a ta):PE X (.UnaryOp .Not a pos) (PB X.K ta):=by
 intro pins s σ H Q I h
 refine UnaryOp_ (AM (ha pins s σ H _ I h) λv s1 ⟨x,H1,I1,r1,k,t1,q1⟩=> ?_)
 exact not_of (AM (UU pins s1 σ H1 x v (λc H2=>c=k/\H2=H1) I1 r1 ⟨k,t1,rfl,rfl⟩) λc s2 ⟨H2,I2,e1,e2⟩=>by
  subst e1;subst e2;exact⟨.bl (!c),_,I2,rfl,q1⟩)
end
def PD(scope outer:Scope)(N cn:List Str)(cap:List Nat):Bool :=
 scope.kind == .function && scope.names.all (λy=>y.2 != .cell) && scope.names.all (λy=>y.2 != .local || scope.names.lookup y.1 == some .local) &&
 scope.names.all (λy=>y.2 != .free || outer.names.lookup y.1 == some .cell || outer.names.lookup y.1 == some .free) && cn.all (λx=>scope.names.lookup x == some .free) && (cap.map (λi=>N[i]?) == cn.map some)
theorem IU{X:Cx}{scope outer:Scope}{N tn cn:List Str}{cap:List Nat}(h1:X.env.scope=outer)(h2:X.N=N)(h:PD scope outer N cn cap=true):IQ X scope tn cn cap:=by
 unfold PD at h
 simp only[Bool.and_eq_true,List.all_eq_true,Bool.or_eq_true,bne_iff_ne,beq_iff_eq]at h
 obtain⟨⟨⟨⟨⟨k1,k2⟩,k3⟩,k4⟩,k5⟩,k6⟩:=h
 refine⟨k1,k2,λy hy hl=>(k3 y hy).resolve_left λz=>z hl,λy hy hf=> ?_,k5,by rw[h2];exact k6⟩
 have z:=k4 y hy
 show X.env.scope.names.lookup y.1=_\/X.env.scope.names.lookup y.1=_
 rw[h1]
 rcases z with(z | z) | z
 ·exact absurd hf z
 ·exact .inl z
 ·exact .inr z
structure NE(K:W.Frag)(C:Addr):Prop where
 ga:W.findIn K (.ref C) "__getattribute__"=some (some (.builtin "BaseException.__getattribute__"))
 gt:W.findIn K (.ref C) "__getattr__"=some none
 be:W.mroIn K C (.type "BaseException")=some true
 cl:W.isClsIn K C=true
 ha:W.findIn K (.ref C) "__class__"=some (some (.builtin "object.__class__"))
 hn:W.specialIn K (.builtin "object.__class__") "__get__"=some (some (.builtin "getset_descriptor.__get__"))
 tk:W.takesIn K (.builtin "object.__class__")=some true
 mr:W.mroIn K C (.type "object")=some true
theorem lK{K:W.Frag}{C:Addr}{od:Option Obj}{name:Str}{a g:Value}(hc:(W.clsIn K C).isSome=true)(ha:W.findIn K (.ref C) name=some (some a))(hg:W.specialIn K a "__get__"=some (some g))(ht:W.takesIn K a=some true) :
  W.findObj K C od name=some (.bind g a):=by
 obtain⟨cd,hc⟩:=Option.isSome_iff_exists.mp hc
 unfold W.findObj
 rw[hc,Option.bind_some,ha,Option.bind_some]
 simp[hg,ht]
theorem lL{K:W.Frag}{M:Model}{A:Around}{E:Value->Shared->Prop}{Q:Unit->Shared->Prop}{s:Shared}{x D:Addr}{ox:Obj}{nm:Value}(c:NE K D)(X:K.In s.heap)(I:W.InstAt s.heap x ox D none)(k:Q () s) :
  wpAny M A (checkBuiltinCall "BaseException.__getattribute__" ⟨[.ref x,nm],[]⟩) Q E s:=by
 have e1:builtinKind "BaseException.__getattribute__"=some .slot:=by decide +kernel
 have e2:splitId "BaseException.__getattribute__"=some ("BaseException","__getattribute__"):=by decide +kernel
 have L:W.Looks M s.heap (isInstance (.ref x) (.type "BaseException")) true:=(I.type (M:=M)).andThen (W.looks_mroIn (M:=M) X c.be)
 have ar:=PySem.F.args_bexc_ga (.ref x) nm
 obtain⟨hh,g,d,t,os⟩:=s
 simp only[checkBuiltinCall,e1,e2]
 refine wpAny_bind (L.at ?_)
 simp only[Bool.not_true,Bool.false_eq_true,if_false]
 cases hs:Manifest.signature? "BaseException.__getattribute__" with
 | none=>exact wpAny_pure k
 | some sig =>
  simp only[argsOk,hs]at ar
  have z:Bind.checkArgs "BaseException.__getattribute__" sig ⟨[.ref x,nm],[]⟩=pure ():=ar
  show wpAny M A (Bind.checkArgs "BaseException.__getattribute__" sig ⟨[.ref x,nm],[]⟩) Q E _
  rw[z];exact wpAny_pure k
theorem lM{K:W.Frag}{prog:Program}{w:World}{A:Around}{E:Value->Shared->Prop}{Q:Option Value->Shared->Prop}{s:Shared}{x D:Addr}{ox:Obj}(c:NE K D)(X:K.In s.heap)(I:W.InstAt s.heap x ox D none)
  (k:Q (some (.ref D)) { s with toks:=s.toks+1 }):wpAny (model prog w) A (getAttr? (.ref x) "__class__") Q E s:=by
 obtain⟨hh,g,d,t,os⟩:=s
 have L0:=I.type (M:=model prog w)
 have L1:=W.looks_findIn (M:=model prog w) X c.ga
 have L2:=W.looks_findIn (M:=model prog w) X c.gt
 have L3:=W.looks_find (M:=model prog w) X I (lK (name:="__class__") c.cl c.ha c.hn c.tk)
 unfold getAttr? getAttrBy? getAttrBy
 refine wpAny_bind (wpAny_mkText (wpAny_bind (wpAny_attempt (wpAny_holding (wpAny_bind (L0.at (wpAny_bind (L1.at ?_))))))))
 show wpAny _ _ (getAttrByItsOwn _ _ _ _ _ _) _ _ _
 unfold getAttrByItsOwn
 refine wpAny_bind (L2.at (wpAny_bind (wpAny_attempt (wpAny_holding ?_))))
 show wpAny _ _ (boundAndCalled _ _ _) _ _ _
 unfold boundAndCalled
 rw[PySem.F.attr_ValueError.ga.bind (.ref x)]
 refine wpAny_bind (wpAny_pure (wpAny_call (codeAny_call_builtin PySem.F.attr_ValueError.ga.plain PySem.F.entry_bexc_ga (lL c X I ?_))))
 refine wpAny_bind (wpAny_pure (wpAny_bind (wpAny_pure (wpAny_bind (L0.at (wpAny_bind (L3.at ?_)))))))
 show wpAny _ _ (holding [_] (call _ _) >>= ret) _ _ _
 refine wpAny_bind (wpAny_holding (wpAny_call (W.class_get (ox:=ox) (od:=none) X I c.mr (wpAny_pure ?_))))
 exact W.handed_on rfl (wpAny_pure k)
theorem lN{K:W.Frag}{x D:Addr}(c:NE K D):W.KitX K (.ref x) (.ref D) (K8 x (.ref D)):=by
 have inst:∀ {h:Heap},K8 x (.ref D) h->∃ ox,W.InstAt h x ox D none:=λ{h} ⟨oe,vs,e1,e2,e3,e4⟩=>by
  refine⟨oe,e1,e2,?_,?_⟩
  ·unfold W.notCls;rw[e4]
  ·rw[e3];trivial
 have cls:∃ cd,W.clsIn K D=some cd:=Option.isSome_iff_exists.mp c.cl
 refine⟨λM h _ p=>(inst p).elim λ_ I=>I.type,λM h X p=> ?_,λh tp dd its n sl X htp=> ?_,λ{prog w A E Q s} X p k=> ?_⟩
 ·obtain⟨cd,hc⟩:=cls
  unfold W.clsIn at hc
  split at hc
  ·rename_i c' d' cd' sl' ho
   intro A' Q' E' s' k q
   unfold isType loadHead
   exact wpAny_bind (wpAny_loadPart (k _ _ (X _ _ ho)) (wpAny_pure q))
  ·cases hc
 ·obtain⟨cd,hc⟩:=cls
  refine Bool.eq_false_iff.mpr λq=> ?_
  have e:D=tp:=Value.ref.inj (beq_iff_eq.mp q)
  subst e
  unfold W.clsIn at hc
  split at hc
  ·rename_i c' d' cd' sl' ho
   have z:=(X _ _ ho).symm.trans htp
   cases z
  ·cases hc
 ·obtain⟨ox,I⟩:=inst p
  exact lM c X I k
def TyX(K:W.Frag)(H:Hp)(x:V)(t:Value):Prop:=DS K H x t\/∃ a C,x=.ref a/\t=.ref C/\H a=some (.ext (K8 a (.ref C)))/\NE K C
inductive ClsV:V->Value->Prop
 | own (C:Addr):ClsV (.ref C) (.ref C)
 | ty (n:String):ClsV (.ty n) (.type n)
theorem ClsV.rel{y:V}{c u:Value}(h:ClsV y c)(r:RelV y u):u=c:=by
 cases h<;>exact r
theorem WO:∀ {ys:List V} {cs us:List Value},Paired ClsV ys cs->Vals ys us->us=cs
 | _,_,_,.nil,.nil=>rfl
 | _,_,_,.cons h t,.cons r rr=>by rw[h.rel r,WO t rr]
def EX(K:W.Frag):List V->Hp->VK->Prop:=λxs H Q=>∃ x y t b,xs=[x,y]/\TyX K H x t ∧
 ((∃ c,ClsV y c/\W.kitOne K t c=some b)\/∃ p ys cs,y=.ref p/\SqT K H p ys/\Paired ClsV ys cs/\W.kitAny K t cs=some b)/\Q (.bl b) H
section
variable{X:Cx}
theorem TyX.kit{pins:List (Addr × Obj)}{σ:St}{H:Hp}{s:Shared}{x:V}{t u:Value}(I:Inv X pins σ H s)(h:TyX X.K H x t)(r:RelV x u):∃ φ :Heap->Prop,W.KitX X.K u t φ /\ φ s.heap/\u≠.builtin "__main__.__loader__#opaque":=by
 rcases h with h | ⟨a,C,rfl,rfl,e,c⟩
 ·cases h with
  | non=>cases (show u=Value.none from r);exact⟨_,W.kitx_none,trivial,λz=>nomatch z⟩
  | bl y=>cases (show u=Value.bool y from r);exact⟨_,W.kitx_bool,trivial,λz=>nomatch z⟩
  | int i=>obtain⟨t,q⟩:=(show ∃ t,u=Value.int i t from r);cases q;exact⟨_,W.kitx_int,trivial,λz=>nomatch z⟩
  | str y=>obtain⟨t,q⟩:=(show ∃ t,u=Value.str y t from r);cases q;exact⟨_,W.kitx_str,trivial,λz=>nomatch z⟩
  | flt y=>obtain⟨t,q⟩:=(show ∃ t,u=Value.float y t from r);cases q;exact⟨_,W.kitx_float,trivial,λz=>nomatch z⟩
  | @lst a xs ea =>
   cases (show u=Value.ref a from r)
   obtain⟨_,_,n,_,h1⟩:=(show ObjOk X.prog X.w H s.heap a (.lst xs)from I.hok a _ ea)
   exact⟨_,W.kitx_list,⟨_,h1,rfl⟩,λz=>nomatch z⟩
  | @frz a ob xs ea =>
   cases (show u=Value.ref a from r)
   obtain⟨_,_,_,n,_,h1⟩:=(show ObjOk X.prog X.w H s.heap a (.frz ob (.lst xs))from I.hok a _ ea)
   exact⟨_,W.kitx_list,⟨_,h1,rfl⟩,λz=>nomatch z⟩
  | @tup a xs ea =>
   cases (show u=Value.ref a from r)
   obtain⟨_,_,_,p⟩:=(show ObjOk X.prog X.w H s.heap a (.tup xs)from I.hok a _ ea)
   obtain⟨o,h1,h2,_⟩:=p
   exact⟨_,W.kitx_tuple,⟨o,h1,h2⟩,λz=>nomatch z⟩
  | @dK a kvs ea =>
   cases (show u=Value.ref a from r)
   obtain⟨_,_,vs,_,p⟩:=(show ObjOk X.prog X.w H s.heap a (.dK kvs)from I.hok a _ ea)
   obtain⟨o,es,ep,h1,h2,_⟩:=p
   exact⟨_,W.kitx_dict,⟨o,h1,h2.1⟩,λz=>nomatch z⟩
  | @dT a kvs ea =>
   cases (show u=Value.ref a from r)
   obtain⟨_,_,xs,_,o,es,ep,h1,h2,_⟩:=(show ObjOk X.prog X.w H s.heap a (.dT kvs)from I.hok a _ ea)
   exact⟨_,W.kitx_dict,⟨o,h1,h2.1⟩,λz=>nomatch z⟩
  | @ins a C dx fs ea cl ha hn htk hm =>
   cases (show u=Value.ref a from r)
   obtain⟨mA,O,_⟩:=MV I.hok ea
   obtain⟨od,J,_⟩:=O.look
   exact⟨_,W.kitx_own (cl.get _) cl.hd ha hn htk hm,J,λz=>nomatch z⟩
 ·cases (show u=Value.ref a from r)
  have p:K8 a (.ref C) s.heap:=(show ObjOk X.prog X.w H s.heap a (.ext (K8 a (.ref C)))from I.hok a _ e).1
  exact⟨_,lN c,p,λz=>nomatch z⟩
theorem GT:CallR X (.builtin "isinstance") (EX X.K):=by
 intro pins s σ H xs us Q I r h
 obtain⟨x,y,t,b,rfl,ty,hc,q⟩:=h
 obtain⟨u,v,rfl,rx,ry⟩:=Vals.two r
 obtain⟨φ,Z,p,ne⟩:=ty.kit I rx
 rcases hc with⟨c,hy,e⟩ | ⟨pt,ys,cs,rfl,hs,hcs,e⟩
 ·have:=hy.rel ry
  subst this
  exact W.kia_one Z I.kIn p e ne λtk=>⟨.bl b,H,I.tok tk,rfl,q⟩
 ·cases (show v=Value.ref pt from ry)
  obtain⟨its,rv,⟨⟨c1,c2,c3,c4⟩,e1,e2,n,e3⟩,_⟩:=I.tuple hs
  obtain rfl:c1=_:=e2
  obtain rfl:c3=_:=e3
  have:=WO hcs rv
  subst this
  exact W.kia_tup Z I.kIn p e1 e ne λtk=>⟨.bl b,H,I.tok tk,rfl,q⟩
end
end L2
namespace L2
def HG(J:It)(g:TG)(tt:TT)(te:TE)(k:Nat)(cap:List Nat)(σ:St)(H1:Hp)(Q:VK):Prop :=
 ∃ W:Nat->Nat->St->List V->Hp->Prop,(∃ m,W 0 m (GQ k cap σ) [] H1)/\∀ i m σ' ys H,W i m σ' ys H →
  (J.stop i H/\∀ p,H p=none->Q (.ref p) (upd H p (.lst ys))) ∨
  (J.go i H/\ys.length<sizeLine/\∀ x H',J.yld i H x H'->g x σ' H' λσ2 H2=>tt σ2 H2 λb H3 =>
   if b=true then ∃ N:VK,(∀ y H4,N y H4->∃ m',m'<m/\W (i+1) m' σ2 (ys++[y]) H4)/\te σ2 H3 N else ∃ m',m'<m/\W (i+1) m' σ2 ys H3)
def DE(J:It)(g:TG)(tb:TS)(D:Ends)(σ:St)(H1:Hp):Prop :=
 ∃ W:Nat->Nat->St->Hp->Prop,(∃ m,W 0 m σ H1)/\∀ i m σ H,W i m σ H →
  (J.stop i H/\D.nx σ H)\/(J.go i H/\∃ N:St->Hp->Prop,(∀ σ' H',N σ' H'->∃ m',m'<m/\W (i+1) m' σ' H')/\∀ x H',J.yld i H x H'->g x σ H' λσ2 H2=>tb { D with nx:=N,ct:=N,bk:=D.nx } σ2 H2)
section
variable{K:W.Frag}{ta tb tc to ti tv tl:TE}{tt tA tB' tu:TT}{s1 s2:TS}{r r':R2}{σ:St}{H:Hp}{Q:VK}{D:Ends}{QB:Bool->Hp->Prop}{as:TA}{g:TG}{gs:GI}{te:TE}{k i:Nat}{cap:List Nat}{f m:Str}{C:Addr}{sp:Sp}{dvs:List V}{E:St->XK}{v:V}{vs:List V}{QA:List V->Hp->Prop}{QG:St->Hp->Prop}{QO:Option Int->Hp->Prop}
theorem lO:AL s1 s2 D σ H=(s1 { D with nx:=s2 D } σ H):=rfl
theorem lP:BR D σ H=(D.nx σ H):=rfl
theorem lQ:gL D σ H=(D.bk σ H):=rfl
theorem lR:gM D σ H=(D.ct σ H):=rfl
theorem lS:A9 ta g D σ H=(ta σ H λx H1=>g x σ H1 D.nx):=rfl
theorem lT:C7 ta D σ H=(ta σ H λ_ H1=>D.nx σ H1):=rfl
theorem lU:A1 ta D σ H=(ta σ H D.rt):=rfl
theorem lV:gO D σ H=(D.rt .non H):=rfl
theorem lW:BO tt s1 s2 D σ H=(tt σ H λb H1=>if b=true then s1 D σ H1 else s2 D σ H1):=rfl
theorem lX:tC v σ H Q=(Q v H):=rfl
theorem lY:AH r ta tb σ H Q=(ta σ H λx H1=>tb σ H1 λy H2=>r x y H2 Q):=rfl
theorem lZ:CD ta σ H QB=(ta σ H λx H'=>∃ k,x=.bl k/\QB k H'):=rfl
theorem mB:IK r r' ta tb tc σ H Q=(ta σ H λx H1=>tb σ H1 λy H2=>r x y H2 λz H3=>∃ k,z=.bl k/\(if k=true then tc σ H3 λw' H4=>r' y w' H4 Q else Q (.bl false) H3)):=rfl
theorem mC:DZ tt σ H QB=(tt σ H λc H1=>QB (!c) H1):=rfl
theorem mD:KU tt tu σ H QB=(tt σ H λc H1=>if c=true then tu σ H1 QB else QB false H1):=rfl
theorem mE:IH tt tu σ H QB=(tt σ H λc H1=>if c=true then QB true H1 else tu σ H1 QB):=rfl
theorem mF:G4 ta tb σ H Q=(ta σ H λx H1=>∃ c,x=.bl c/\if c=true then tb σ H1 Q else Q (.bl false) H1):=rfl
theorem mG:gI ta tb σ H Q=(ta σ H λx H1=>∃ c,x=.bl c/\if c=true then Q (.bl true) H1 else tb σ H1 Q):=rfl
theorem mH:PB K ta σ H Q=(ta σ H λx H1=>∃ k,EF K x H1 k/\Q (.bl (!k)) H1):=rfl
theorem mI:EJ K ta σ H QB=(ta σ H λx H'=>∃ k,EF K x H' k/\QB k H'):=rfl
theorem mJ:gJ tt ta tb σ H Q=(tt σ H λc H1=>if c=true then ta σ H1 Q else tb σ H1 Q):=rfl
theorem mK:AE σ H QA=(QA [] H):=rfl
theorem mM:AC ta as σ H QA=(ta σ H λx H1=>as σ H1 λxs H2=>QA (x::xs) H2):=rfl
theorem mO:D2 as σ H Q=(as σ H λxs H1=>xs.length<=sizeLine/\∀ p,H1 p=none->Q (.ref p) (upd H1 p (.tup xs))):=rfl
theorem mP:C1 as σ H Q=(as σ H λxs H1=>xs.length<=sizeLine/\∀ p,H1 p=none->Q (.ref p) (upd H1 p (.lst xs))):=rfl
theorem mQ:A6 sp dvs E as σ H Q=(as σ H λvs H1=>sp (vs++dvs) H1 Q (E σ)):=rfl
theorem mR:BF C m sp dvs E ta as σ H Q=(ta σ H λx H1=>∃ a dx fs,x=.ref a/\H1 a=some (.ins C dx fs)/\fs.lookup m=none/\as σ H1 λvs H2=>sp (x::(vs++dvs)) H2 Q (E σ)):=rfl
theorem mS:FA C sp dvs E as σ H Q=(as σ H λvs H1=>∀ x dx,H1 x=none->H1 dx=none->dx≠x->sp (.ref x::(vs++dvs)) (upd (upd H1 dx (.own x)) x (.ins C dx [])) (λv H2=>v=.non/\Q (.ref x) H2) (E σ)):=rfl
theorem mT:BJ K ta f σ H Q=(ta σ H λx H1=>∃ a C dx fs v,x=.ref a/\H1 a=some (.ins C dx fs)/\Cls K C/\NoAttr K C f/\fs.lookup f=some v/\Q v H1):=rfl
theorem mU:D1 K ta tv f D σ H=(tv σ H λy H1=>ta σ H1 λx H2=>∃ a C dx fs,x=.ref a/\H2 a=some (.ins C dx fs)/\Cls K C/\NoAttr K C f/\fs.length<1000/\D.nx σ (upd H2 a (.ins C dx (A0 f y fs)))):=rfl
theorem mV{ru:V->Hp->VK->Prop}:hE ru ta σ H Q=ta σ H λx H1=>ru x H1 Q:=rfl
theorem mW{rc:List V->Hp->VK->Prop}:BK rc as σ H Q=as σ H λvs H1=>rc vs H1 Q:=rfl
theorem mX:IR C E as D σ H=(as σ H λvs H1=>vs.length<=sizeLine/\E σ (.ref C) none H1):=rfl
theorem mY{sb:(St->XK)->TS}{th:TH}:kS sb th D σ H=sb (λσ' cls _ H'=>th cls D σ' H') D σ H:=rfl
theorem mZ:AW i v σ H QG=(QG (σ.set i (some v)) H):=rfl
theorem m6{rs:MJ}:II to ti rs v σ H QG=to σ H λo H1=>ti σ H1 λi H2=>rs o i v H2 λH3=>QG σ H3:=rfl
theorem m7:OL K k gs v σ H QG=(∃ a xs,v=.ref a/\SqT K H a xs/\xs.length=k/\gs xs σ H QG):=rfl
theorem m8:OK vs σ H QG=((vs=[]/\QG σ H)):=rfl
theorem m9:ML g gs vs σ H QG=(∃ v r,vs=v::r/\g v σ H λσ' H'=>gs r σ' H' QG):=rfl
theorem nD{rs:V->Option Int->Option Int->Hp->VK->Prop}{ol oh:TO}:OT rs ta ol oh σ H Q=ta σ H λx H1=>ol σ H1 λl H2=>oh σ H2 λu H3=>rs x l u H3 Q:=rfl
theorem nE:i9 σ H QO=(QO none H):=rfl
theorem nH:MY ta σ H QO=(ta σ H λx H1=>∃ i,x=.int i/\QO (some i) H1):=rfl
theorem nJ{T:String}{rm:V->List V->Hp->VK->Prop}:FT K T rm ta as σ H Q=ta σ H λx H1=>K1 K T x H1/\as σ H1 λxs H2=>rm x xs H2 Q:=rfl
theorem nK{T:String}{rm:V->List V->Hp->VK->Prop}:jS K T rm ta σ H Q=ta σ H λx H1=>K1 K T x H1/\rm x [] H1 Q:=rfl
theorem nQ{tip:MK}:gS i ta tip D σ H=∃ x,σ[i]? =some (some x)/\ta σ H λy H1=>tip x y H1 λz H2=>D.nx (σ.set i (some z)) H2:=rfl
theorem nR:FC σ H QB=(QB true H):=rfl
theorem nS:EW (DB as) g tt te k cap σ H Q=(as σ H λvs H1=>∃ j:Int,vs=[.int j]/\ -(2 ^ 62)<=j/\j<2 ^ 62/\HG (DL 0 j.toNat) g tt te k cap σ H1 Q):=rfl
theorem nU:EW (UM as) g tt te k cap σ H Q=(as σ H λvs H1=>∃ i j:Int,vs=[.int i,.int j]/\(-(2 ^ 62)<=i/\i<2 ^ 62/\ -(2 ^ 62)<=j/\j<2 ^ 62)/\HG (DL i (j - i).toNat) g tt te k cap σ H1 Q):=rfl
theorem nX:EW (EK K tl) g tt te k cap σ H Q=(tl σ H λx H1=>∃ a,x=.ref a/\(((∃ xs,SqL K H1 a xs)/\HG (GK K a) g tt te k cap σ H1 Q)\/((∃ xs,SqT K H1 a xs)/\HG (GL K a) g tt te k cap σ H1 Q))):=rfl
theorem nY:B7 (DB as) g s1 D σ H=(as σ H λvs H1=>∃ j:Int,vs=[.int j]/\ -(2 ^ 62)<=j/\j<2 ^ 62/\DE (DL 0 j.toNat) g s1 D σ H1):=rfl
theorem nZ:B7 (UM as) g s1 D σ H=(as σ H λvs H1=>∃ i j:Int,vs=[.int i,.int j]/\(-(2 ^ 62)<=i/\i<2 ^ 62/\ -(2 ^ 62)<=j/\j<2 ^ 62)/\DE (DL i (j - i).toNat) g s1 D σ H1):=rfl
theorem n5:B7 (EK K tl) g s1 D σ H=(tl σ H λx H1=>∃ a,x=.ref a/\(((∃ xs,SqL K H1 a xs)/\DE (GK K a) g s1 D σ H1)\/((∃ xs,SqT K H1 a xs)/\DE (GL K a) g s1 D σ H1))):=rfl
theorem n6{rd:V->V->Hp->VK->Prop}:MX K ta tv rd f D σ H=(ta σ H λx H1=>∃ a C dx fs v,x=.ref a/\H1 a=some (.ins C dx fs)/\Cls K C/\NoAttr K C f/\fs.lookup f=some v/\tv σ H1 λy H2=>rd v y H2 λz H3=>∃ dx' fs',H3 a=some (.ins C dx' fs')/\fs'.length<1000/\D.nx σ (upd H3 a (.ins C dx' (A0 f z fs')))):=rfl
end
end L2
namespace L2
section
variable{K:W.Frag}{σ:St}{H:Hp}{Q:VK}{P:Bool->Prop}{PI':Int->Prop}{PV:V->Prop}{QB:Bool->Hp->Prop}{v:V}{x:Option V}{i j:Int}{n:Nat}{b b':Bool}{s s':Str}{p q:Addr}{f:Int->Int->V}{C:Int->Int->Prop}
def AA(i:Nat):TE:=λσ H Q=>match σ[i]? with
 | some (some v)=>Q v H
 | _=>False
theorem n8:AA 0 (some v::σ) H Q=Q v H:=rfl
theorem oC:AA (n+1) (x::σ) H Q=AA n σ H Q:=rfl
theorem oE(i:Nat):AA i=OG i:=by
 funext σ H Q
 unfold AA OG
 cases σ[i]? with
 | none=>simp
 | some o=>cases o<;>simp
theorem oF{P:Bool->Prop}:(∃ k,V.bl b=V.bl k/\P k)=P b:=by simp
theorem oG{P:Int->Prop}:(∃ k,V.int i=V.int k/\P k)=P i:=by simp
theorem oH{P:Addr->Prop}:(∃ k,V.ref p=V.ref k/\P k)=P p:=by simp
theorem oI{P:Bool->Prop}:(∃ k,EF K (.bl b) H k/\P k)=P b:=by simp[EF]
theorem oJ{P:Bool->Prop}:(∃ k,EF K (.int i) H k/\P k)=P (i != 0):=by simp[EF]
theorem oK{P:Bool->Prop}:(∃ k,EF K .non H k/\P k)=P false:=by simp[EF]
theorem oM:CU K (.int i) (.int j) H Q=Q (.int (i+j)) H:=rfl
theorem oN:CU K (.str s) (.str s') H Q=(s.length+s'.length<=sizeLine/\Q (.str (s++s')) H):=rfl
theorem oO:CU K (.ref p) (.ref q) H Q=(OY (.ref p) (.ref q) H Q\/OU K (.ref p) (.ref q) H Q\/O7 K (.ref p) (.ref q) H Q):=rfl
theorem oP{x y:Str}:GR (.str x) (.str y) H Q=Q (.bl (!decide (y.cps.toList<x.cps.toList))) H:=rfl
theorem oQ{x y:Str}:FW (.str x) (.str y) H Q=Q (.bl (decide (x.cps.toList<y.cps.toList))) H:=rfl
theorem oR{x:Str}{lo hi:Option Int}:NC K (.str x) lo hi H Q=(x.length<=sizeLine/\Q (.str (Txt.slice x lo hi)) H):=rfl
theorem oU:DU K (.int i) (.int j) H Q=(CMul i j/\Q (.int (i * j)) H):=rfl
theorem oV{z:Str}{j:Int}:DU K (.str z) (.int j) H Q=(0<=j/\j<=1000/\z.length<=1000/\Q (.str (D5 z j)) H):=rfl
theorem oW:DU K (.ref p) (.int j) H Q=(OZ (.ref p) (.int j) H Q\/O8 K (.ref p) (.int j) H Q):=rfl
theorem oX:E9 f (.int i) (.int j) H Q=Q (f i j) H:=by simp[E9]
theorem oY:rI C f (.int i) (.int j) H Q=(C i j/\Q (f i j) H):=by simp[rI]
theorem oZ{g:Int->V}:rU g (.int i) H Q=Q (g i) H:=by simp[rU]
theorem o0:FW (.int i) (.int j) H Q=Q (.bl (decide (i<j))) H:=rfl
theorem o6:GR (.int i) (.int j) H Q=Q (.bl (decide (i<=j))) H:=rfl
theorem o7:LA (.int i) (.int j) H Q=Q (.bl (decide (j<i))) H:=rfl
theorem o8:lE (.int i) (.int j) H Q=Q (.bl (decide (j<=i))) H:=rfl
theorem o9:CG K (.int i) (.int j) H Q=Q (.bl (decide (i=j))) H:=by simp[CG,CZ]
theorem pA:CG K (.str s) (.str s') H Q=Q (.bl (decide (s=s'))) H:=by simp[CG,CZ]
theorem pB:CG K (.bl b) (.bl b') H Q=Q (.bl (decide (b=b'))) H:=by simp[CG,CZ]
theorem pC:CG K .non (.int j) H Q=Q (.bl false) H:=by simp[CG,CZ]
theorem pD:CG K (.int j) .non H Q=Q (.bl false) H:=by simp[CG,CZ]
theorem pE:CG K .non .non H Q=Q (.bl true) H:=by simp[CG,CZ]
theorem pF:B8 K (.int i) (.int j) H Q=Q (.bl (!decide (i=j))) H:=by simp[B8,CZ]
theorem pG:B8 K (.str s) (.str s') H Q=Q (.bl (!decide (s=s'))) H:=by simp[B8,CZ]
theorem pH:B8 K (.bl b) (.bl b') H Q=Q (.bl (!decide (b=b'))) H:=by simp[B8,CZ]
theorem pJ:B8 K .non (.int j) H Q=Q (.bl true) H:=by simp[B8,CZ]
theorem pK:B8 K (.int j) .non H Q=Q (.bl true) H:=by simp[B8,CZ]
theorem pL:B8 K .non .non H Q=Q (.bl false) H:=by simp[B8,CZ]
theorem pM:HE v .non H Q=Q (.bl (decide (v=.non))) H:=by simp[HE]
theorem pN:WM v .non H Q=Q (.bl (!decide (v=.non))) H:=by simp[WM]
theorem pO{g:Int->Int->Int}:OM g (.int i) (.int j) H Q=Q (.int (g i j)) H:=by simp[OM]
theorem pP:K0 (.int i) (.int j) H Q=Q (.int (i+j)) H:=by simp[K0]
theorem pR:C8 K [v] H Q=∃ n:Nat,MT K v H n/\Q (.int n) H:=by simp[C8]
theorem pS:LE K [.bl b] H Q=Q (.int (if b then 1 else 0)) H:=by simp[LE]
theorem pT:LE K [.int i] H Q=Q (.int i) H:=by simp[LE]
theorem WP:GS K [.ref p] H Q=∃ ys,(SqL K H p ys\/SqT K H p ys)/\∀ l,H l=none->Q (.ref l) (upd H l (.lst ys)):=by simp[GS]
theorem pU:IT K [.ref p] H Q=∃ ys,((SqL K H p ys/\∀ l,H l=none->Q (.ref l) (upd H l (.tup ys)))\/(SqT K H p ys/\Q (.ref p) H)):=by simp[IT]
end
theorem AB{X:Cx}(i:Nat){x:Str}{pos:Pos}(hN:X.N[i]? =some x:=by rfl)(hv:OF X.env.scope x:=by first | exact Or.inl rfl | exact Or.inr (Or.inl rfl) | exact Or.inr (Or.inr rfl))(hd:(x ==("__debug__":Str))=false:=by decide)
  (hcd:(x ==("__classdict__":Str))=false:=by decide):PE X (.Name x pos) (AA i):=by
 rw[oE]
 exact gG hN hv hd hcd
end L2
namespace L2
abbrev A7(Q:VK):Ends:={ nx:=λ_ H'=>Q .non H',rt:=Q }
abbrev FZ(cap:List Nat)(σ:St):St:=cap.map λi=>(σ[i]?).join
section
variable{K:W.Frag}{te:TE}{cap:List Nat}{σ:St}{H:Hp}{Q:VK}
theorem LF{lo:Int}{n:Nat}(hn:n<=sizeLine)(Pv:Nat->List V->Hp->Prop)(h0:Pv 0 [] H)(hs:∀ i ys H,i<n->ys.length=i->Pv i ys H->te (some (.int (lo+i))::FZ cap σ) H λy H2=>Pv (i+1) (ys++[y]) H2)
  (hd:∀ ys H,ys.length=n->Pv n ys H->∀ p,H p=none->Q (.ref p) (upd H p (.lst ys))) :
  HG (DL lo n) (AW 0) FC te 1 cap σ H Q:=by
 refine⟨λi m σ' ys H=>m=n - i/\i<=n/\ys.length=i/\(∃ x0,σ'=x0::FZ cap σ)/\Pv i ys H,⟨n,by simp,Nat.zero_le _,rfl,⟨none,rfl⟩,h0⟩,?_⟩
 rintro i m σ' ys H ⟨rfl,hi,hl,⟨x0,rfl⟩,p⟩
 by_cases hlt:i<n
 ·refine .inr ⟨hlt,by omega,λx H' y=> ?_⟩
  obtain⟨e,y⟩:=y
  subst e y
  simp only[AW,FC,if_true]
  refine⟨_,λy H4 q=>⟨n - (i+1),by omega,rfl,hlt,?_,⟨_,rfl⟩,q⟩,hs i ys _ hlt hl p⟩
  rw[List.length_append,List.length_singleton,hl]
 ·have e:i=n:=by omega
  subst e
  exact .inl ⟨Nat.le_refl _,hd ys H hl p⟩
theorem pV{lo:Int}{n:Nat}(hn:n<=sizeLine)(f:Nat->V)(hs:∀ i,i<n->∀ Q':VK,Q' (f i) H->te (some (.int (lo+i))::FZ cap σ) H Q')
  (hd:∀ p,H p=none->Q (.ref p) (upd H p (.lst ((List.range n).map f)))) :
  HG (DL lo n) (AW 0) FC te 1 cap σ H Q:=by
 refine LF hn (λi ys H'=>H'=H/\ys=(List.range i).map f) ⟨rfl,rfl⟩ (λi ys H' hi hl ⟨e1,e2⟩=> ?_) (λys H' hl ⟨e1,e2⟩=> ?_)
 ·subst e1
  refine hs i hi _ ⟨rfl,?_⟩
  rw[e2,List.range_succ,List.map_append];rfl
 ·subst e1;subst e2;exact hd
theorem GU{b:Addr}{xs:List V}{g:TG}{tb:TS}{D:Ends}(Pv:Nat->St->Hp->Prop)(h0:Pv 0 σ H)(hl:∀ i σ H,i<=xs.length->Pv i σ H->SqL K H b xs)
  (hs:∀ i x σ H,xs[i]? =some x->Pv i σ H->g x σ H λσ2 H2=>tb { D with nx:=Pv (i+1),ct:=Pv (i+1),bk:=D.nx } σ2 H2) (hd:∀ σ H,Pv xs.length σ H->D.nx σ H):DE (GK K b) g tb D σ H:=g6 Pv h0 hl hs hd
theorem pW{b:Addr}{xs:List V}{g:TG}{tb:TS}{D:Ends}(Pv:Nat->St->Hp->Prop)(h0:Pv 0 σ H)(hl:∀ i σ H,i<=xs.length->Pv i σ H->SqT K H b xs)
  (hs:∀ i x σ H,xs[i]? =some x->Pv i σ H->g x σ H λσ2 H2=>tb { D with nx:=Pv (i+1),ct:=Pv (i+1),bk:=D.nx } σ2 H2) (hd:∀ σ H,Pv xs.length σ H->D.nx σ H):DE (GL K b) g tb D σ H:=g7 Pv h0 hl hs hd
theorem HH{lo:Int}{n:Nat}{g:TG}{tb:TS}{D:Ends}(Pv:Nat->St->Hp->Prop)(h0:Pv 0 σ H)
  (hs:∀ i σ H,i<n->Pv i σ H->g (.int (lo+i)) σ H λσ2 H2=>tb { D with nx:=Pv (i+1),ct:=Pv (i+1),bk:=D.nx } σ2 H2) (hd:∀ σ H,Pv n σ H->D.nx σ H):DE (DL lo n) g tb D σ H:=g8 Pv h0 hs hd
end
theorem HI{K:W.Frag}{H:Hp}{x y:V}{t c:Value}{b:Bool}{Q:VK}(ty:TyX K H x t)(cv:ClsV y c)(k:W.kitOne K t c=some b)(q:Q (.bl b) H):EX K [x,y] H Q:=⟨x,y,t,b,rfl,ty,.inl ⟨c,cv,k⟩,q⟩
theorem PF{K:W.Frag}{H:Hp}{x:V}{p:Addr}{ys:List V}{cs:List Value}{t:Value}{b:Bool}{Q:VK}(ty:TyX K H x t)(hs:SqT K H p ys)(hc:Paired ClsV ys cs)(k:W.kitAny K t cs=some b)(q:Q (.bl b) H):EX K [x,.ref p] H Q:=⟨x,.ref p,t,b,rfl,ty,.inr ⟨p,ys,cs,rfl,hs,hc,k⟩,q⟩
theorem AX{H:Hp}{p:Addr}{o:HO}(h:H p=none):Same H (upd H p o):=λb u e=>by rw[AI (AS e h)];exact e
theorem LG{α β :Type}{F: α -> β ->Prop}:∀ {l:List α} {m:List β} {i:Nat} {y: β},Paired F l m->m[i]? =some y->∃ x,l[i]? =some x/\F x y
 | _,_,_,_,.nil,e=>by simp at e
 | _,_,0,_,.cons r _,e=>by simp at e;subst e;exact⟨_,rfl,r⟩
 | _,_,i+1,y,.cons _ t,e=>by
  obtain⟨u,h1,h2⟩:=LG (i:=i) (y:=y) t (by simpa using e)
  exact⟨u,by simpa using h1,h2⟩
theorem PH{α β :Type}{F: α -> β ->Prop}{x: α}{y: β}(r:F x y):∀ {l:List α} {m:List β} (i:Nat),Paired F l m->Paired F (l.set i x) (m.set i y)
 | _,_,_,.nil=>.nil
 | _,_,0,.cons _ t=>.cons r t
 | _,_,i+1,.cons q t=>.cons q (PH r i t)
theorem BD{K:W.Frag}{H:Hp}{p:Addr}{xs:List V}{i:Int}{n:Nat}{v:V}{Q:VK}(h:SqL K H p xs)(hi:i=n)(hx:xs[n]? =some v)(q:Q v H):AT K (.ref p) (.int i) H Q :=
 .inl ⟨p,xs,i,v,rfl,rfl,h,hi ▸ VH hx,q⟩
theorem GW(n:Nat)(h:n<=100000):n<=sizeLine:=Nat.le_trans h (by decide)
theorem WQ{α :Type}(x: α):∀ w:Nat,(List.replicate w [x]).flatten=List.replicate w x
 | 0=>rfl
 | w+1=>by rw[List.replicate_succ,List.flatten_cons,WQ x w];rfl
theorem PJ{f:Str}{v:V}{fs:List (Str × V)}{n:Nat}(h:fs.length+1<n):(A0 f v fs).length<n:=Nat.lt_of_le_of_lt (MU f v fs) h
theorem WR:OP 10 30:=⟨by decide,by decide,by decide⟩
theorem pX{d:PyData}(h:shp d):PyData.eqv d d=true:=PySem.SeqAt.eqv_refl d (PySem.SeqAt.canLay_of_shaped h)
end L2
namespace L2
def ItK(k:Bool)(h:Heap)(j a:Addr)(i:Nat):Prop:=if k then h.IsListIter j a i else h.IsTupleIter j a i
def SeqK(k:Bool)(h:Heap)(a:Addr)(xs:Array Value):Prop:=if k then h.IsList a xs else h.IsTuple a xs
theorem ItK.up{k:Bool}{h h':Heap}{j a:Addr}{i:Nat}(x:ItK k h j a i)(q:∀ o,h.get? j=some o->h'.get? j=some o):ItK k h' j a i:=by
 cases k<;>exact(let ⟨o,e,r⟩:=x;⟨o,q o e,r⟩)
theorem SeqK.up{k:Bool}{h h':Heap}{a:Addr}{xs:Array Value}(x:SeqK k h a xs)(q:∀ o,h.get? a=some o->h'.get? a=some o):SeqK k h' a xs:=by
 cases k<;>exact(let ⟨o,e,r⟩:=x;⟨o,q o e,r⟩)
theorem ItK.ob{k:Bool}{h:Heap}{j a:Addr}{i:Nat}(x:ItK k h j a i):∃ o,h.get? j=some o/\o.data=.fields #[.ref a,.int i 0]:=by
 cases k<;>exact(let ⟨o,e,_,r⟩:=x;⟨o,e,r⟩)
section
variable{P:Program}{w:World}{A:Around}{E:Value->Shared->Prop}{s:Shared}
theorem pY{j t:Addr}{i:Nat}{its:Array Value}{x:Value}{Q:Value->Shared->Prop}(c:s.heap.IsTupleIter j t i)(d:s.heap.IsTuple t its)(e:its[i]? =some x)
  (q:∀ h',h'.IsTupleIter j t (i+1)->Heap.SameBut j s.heap h'->Q x { s with heap:=h' }):wpAny (model P w) A (Builtin.SmallTypes.nextOf (.ref j)) Q E s:=by
 obtain⟨oj,e1,e2,e3⟩:=id c
 obtain⟨ot,f1,_,n,f2⟩:=d
 unfold Builtin.SmallTypes.nextOf
 refine wpAny_bind (wpAny_callSpecial?_slot (name:=Str.ofString "__next__") c.typeIs F.slot_tuple_iterator_next (wpAny_call_entry F.slot_tuple_iterator_next c.typeIs F.entry_tuple_iterator_next ?_ (F.args_tuple_iterator_next_1 _)))
 show wpAny (model P w) _ (field (.ref j) 0 >>= _) _ _ s
 refine wpAny_bind (wpAny_field e1 e3 (x:=.ref t) rfl ?_)
 show wpAny (model P w) _ (field (.ref j) 1 >>= _) _ _ s
 refine wpAny_bind (wpAny_field e1 e3 (x:=.int i 0) rfl ?_)
 show wpAny (model P w) _ (seqItems? (.ref t) >>= _) _ _ s
 refine wpAny_bind (wpAny_seqItems f1 f2 ?_)
 simp only[Int.toNat_natCast,e]
 refine wpAny_bind (wpAny_setField e1 e3 (by simp) (wpAny_pure ⟨x,rfl,wpAny_pure (q _ ⟨_,Heap.get?_update_self _ e1 (Obj.isFreed_of_fields (Obj.data_mapFields e3 _)),(Obj.cls_mapFields ..).trans e2,?_⟩ (Heap.SameBut.update ..))⟩))
 rw[Obj.data_mapFields e3]
 simp[rawInt]
theorem pZ{j t:Addr}{i:Nat}{its:Array Value}{Q:Value->Shared->Prop}(z:A.handled=none)(c:s.heap.IsTupleIter j t i)(d:s.heap.IsTuple t its)(e:its[i]? =none)
  (q:∀ h' x,Heap.ExtBut j s.heap h'->(∃ o,h'.get? x=some o/\o.cls=.type "StopIteration")->E (.ref x) { s with heap:=h' }):wpAny (model P w) A (Builtin.SmallTypes.nextOf (.ref j)) Q E s:=by
 obtain⟨oj,e1,e2,e3⟩:=id c
 obtain⟨ot,f1,_,n,f2⟩:=d
 unfold Builtin.SmallTypes.nextOf
 refine wpAny_bind (wpAny_callSpecial?_slot (name:=Str.ofString "__next__") c.typeIs F.slot_tuple_iterator_next (wpAny_call_entry F.slot_tuple_iterator_next c.typeIs F.entry_tuple_iterator_next ?_ (F.args_tuple_iterator_next_1 _)))
 show wpAny (model P w) _ (field (.ref j) 0 >>= _) _ _ s
 refine wpAny_bind (wpAny_field e1 e3 (x:=.ref t) rfl ?_)
 show wpAny (model P w) _ (field (.ref j) 1 >>= _) _ _ s
 refine wpAny_bind (wpAny_field e1 e3 (x:=.int i 0) rfl ?_)
 show wpAny (model P w) _ (seqItems? (.ref t) >>= _) _ _ s
 refine wpAny_bind (wpAny_seqItems f1 f2 ?_)
 simp only[Int.toNat_natCast,e]
 refine wpAny_bind (wpAny_rule (wpAny_bind (wpAny_setField e1 e3 (by simp) ?_)))
 show wpAny (model P w) _ (newExc (.type "StopIteration") [] >>= _) _ _ _
 refine wpAny_bind ?_
 simp only[newExc,newTuple]
 refine wpAny_bind (wpAny_newObj_type (wpAny_bind (m:=firstArgMember _ _) (wpAny_of_eq (a:=Value.none) (by first | rfl | (simp only[firstArgMember];rfl)) (wpAny_newObj_type ?_ (by size_fits)))) (by size_fits))
 simp only[raiseNew]
 refine wpAny_bind (wpAny_handled ?_)
 rw[show A.in1.handled=none from z]
 exact wpAny_bind (wpAny_pure (wpAny_throw (q _ _ (((Heap.SameBut.update ..).extBut.push _).push _) ⟨_,Heap.get?_push_size _ rfl,rfl⟩)))
theorem PK{k:Bool}{j t:Addr}{i:Nat}{its:Array Value}{x:Value}{Q:Value->Shared->Prop}(c:ItK k s.heap j t i)(d:SeqK k s.heap t its)(e:its[i]? =some x)
  (q:∀ h',ItK k h' j t (i+1)->Heap.SameBut j s.heap h'->Q x { s with heap:=h' }):wpAny (model P w) A (Builtin.SmallTypes.nextOf (.ref j)) Q E s:=by
 cases k
 ·exact pY c d e q
 ·exact wpAny_nextOf_list_item c d e q
theorem WT{k:Bool}{j t:Addr}{i:Nat}{its:Array Value}{Q:Value->Shared->Prop}(z:A.handled=none)(c:ItK k s.heap j t i)(d:SeqK k s.heap t its)(e:its[i]? =none)
  (q:∀ h' x,Heap.ExtBut j s.heap h'->(∃ o,h'.get? x=some o/\o.cls=.type "StopIteration")->E (.ref x) { s with heap:=h' }):wpAny (model P w) A (Builtin.SmallTypes.nextOf (.ref j)) Q E s:=by
 cases k
 ·exact pZ z c d e q
 ·exact wpAny_nextOf_list_end z c d e q
theorem p0{k1 k2:Bool}{z T U i1 i2 l1 l2:Addr}{n1 n2:Nat}{xs ys:Array Value}{x y a b:Value}{Q:Value->Shared->Prop}(D:ZipApart z T U i1 i2 l1 l2)(hz:IsZip s.heap z T U .none)(hT:IsPair s.heap T (.ref i1) (.ref i2))(hU:IsPair s.heap U a b)
  (c1:ItK k1 s.heap i1 l1 n1) (c2:ItK k2 s.heap i2 l2 n2) (d1:SeqK k1 s.heap l1 xs) (d2:SeqK k2 s.heap l2 ys) (ex:xs[n1]? =some x) (ey:ys[n2]? =some y)
  (q:∀ h',IsZip h' z T U (rawInt s.heap.objs.size)->IsPair h' U x y->ItK k1 h' i1 l1 (n1+1)->ItK k2 h' i2 l2 (n2+1)->IsPair h' s.heap.objs.size x y →
   (∀ c o,c≠z->c≠U->c≠i1->c≠i2->s.heap.get? c=some o->h'.get? c=some o)->Q (.ref s.heap.objs.size) { s with heap:=h' }) :
  wpAny (model P w) A (Builtin.«zip.__next__» ⟨[.ref z],[]⟩) (λfin s'=>∃ v,fin=.done (.ret v)/\Q v s') E s:=by
 show wpAny (model P w) A (field (.ref z) 2 >>= _) _ _ s
 refine wpAny_bind (wpAny_field hz rfl (x:=.bool false) rfl ?_)
 show wpAny (model P w) A (field (.ref z) 3 >>= _) _ _ s
 refine wpAny_bind (wpAny_field hz rfl (x:=.ref T) rfl (wpAny_bind (wpAny_seqItems hT rfl ?_)))
 show wpAny (model P w) A (Builtin.SmallTypes.ownedTupleIsFree (.ref z) >>= _) _ _ s
 unfold Builtin.SmallTypes.ownedTupleIsFree
 refine wpAny_bind (wpAny_bind (wpAny_field hz rfl (x:=.none) rfl (wpAny_pure ?_)))
 simp only[if_true]
 refine wpAny_bind (wpAny_rule (wpAny_bind (wpAny_field hz rfl (x:=.ref U) rfl (wpAny_bind (wpAny_setField_rec hz (by simp) λh1 g1 b1=> ?_)))))
 have g1:IsZip h1 z T U .ellipsis:=g1
 refine wpAny_bind ?_
 simp only[List.zipIdx_cons,List.zipIdx_nil,List.forIn_cons,List.forIn_nil]
 refine wpAny_bind (wpAny_bind (wpAny_onRaise ?_))
 show wpAny (model P w) A (Builtin.SmallTypes.nextOf (.ref i1) >>= _) _ _ _
 refine wpAny_bind (PK (c1.up λo e=>b1.extBut _ o D.i1z e) (d1.up λo e=>b1.extBut _ o D.l1z e) ex λh2 g2 b2=>wpAny_pure ?_)
 have u2:IsPair h2 U a b:=b2.extBut _ _ D.TOi1 (b1.extBut _ _ D.TOz hU)
 refine wpAny_bind (wpAny_seqItems u2 rfl (wpAny_bind (wpAny_updateSeq_pair u2 λh3 u3 b3=>wpAny_bind (wpAny_letGo (wpAny_pure ?_)))))
 have u3:IsPair h3 U x b:=u3
 refine wpAny_bind (wpAny_bind (wpAny_onRaise ?_))
 show wpAny (model P w) A (Builtin.SmallTypes.nextOf (.ref i2) >>= _) _ _ _
 refine wpAny_bind (PK (c2.up λo e=>b3.extBut _ o D.TOi2.symm (b2.extBut _ o D.i12.symm (b1.extBut _ o D.i2z e))) (d2.up λo e=>b3.extBut _ o D.l2TO (b2.extBut _ o D.l2i1 (b1.extBut _ o D.l2z e))) ey λh4 g4 b4=>wpAny_pure ?_)
 have u4:IsPair h4 U x b:=b4.extBut _ _ D.TOi2 u3
 refine wpAny_bind (wpAny_seqItems u4 rfl (wpAny_bind (wpAny_updateSeq_pair u4 λh5 u5 b5=>wpAny_bind (wpAny_letGo (wpAny_pure (wpAny_pure ?_))))))
 have u5:IsPair h5 U x y:=u5
 refine wpAny_bind (wpAny_seqItems u5 rfl (wpAny_bind (wpAny_newTuple ?_)))
 have sz:h5.objs.size=s.heap.objs.size:=by rw[b5.1,b4.1,b3.1,b2.1,b1.1]
 have z5:IsZip h5 z T U .ellipsis:=b5.extBut _ _ D.TOz.symm (b4.extBut _ _ D.i2z.symm (b3.extBut _ _ D.TOz.symm (b2.extBut _ _ D.i1z.symm g1)))
 have k5:∀ c o,c≠z->c≠U->c≠i1->c≠i2->s.heap.get? c=some o->h5.get? c=some o:=λc o n1 n2 n3 n4 e=>b5.extBut _ _ n2 (b4.extBut _ _ n4 (b3.extBut _ _ n2 (b2.extBut _ _ n3 (b1.extBut _ _ n1 e))))
 have j1:ItK k1 h5 i1 l1 (n1+1):=g2.up λo e=>b5.extBut _ o D.TOi1.symm (b4.extBut _ o D.i12 (b3.extBut _ o D.TOi1.symm e))
 have j2:ItK k2 h5 i2 l2 (n2+1):=g4.up λo e=>b5.extBut _ o D.TOi2.symm e
 have ltz:z<h5.objs.size:=Heap.lt_size z5
 show wpAny (model P w) A (Builtin.SmallTypes.ownedTupleHandOut (.ref z) (.ref h5.objs.size) >>= _) _ _ _
 unfold Builtin.SmallTypes.ownedTupleHandOut
 have z6:IsZip (h5.push { cls:=.type "tuple",data:=.seq #[x,y] }) z T U .ellipsis:=Heap.get?_push_of_some _ z5
 refine wpAny_bind (wpAny_bind (wpAny_setField_rec z6 (by simp) λh7 z7 b7=> ?_))
 have z7:IsZip h7 z T U (rawInt h5.objs.size):=z7
 refine wpAny_setField_rec z7 (by simp) λh8 z8 b8=> ?_
 have z8:IsZip h8 z T U (rawInt h5.objs.size):=z8
 have up:∀ c o,c≠z->h5.get? c=some o->h8.get? c=some o:=λc o n1 e=>b8.extBut _ _ n1 (b7.extBut _ _ n1 (Heap.get?_push_of_some _ e))
 have t8:IsPair h8 h5.objs.size x y:=b8.extBut _ _ (Nat.ne_of_gt ltz) (b7.extBut _ _ (Nat.ne_of_gt ltz) (Heap.get?_push_size _ rfl))
 rw[sz]at z8 t8
 refine wpAny_pure ⟨_,rfl,?_⟩
 show Q (.ref h5.objs.size) _
 rw[sz]
 exact q h8 z8 (up _ _ D.TOz u5) (j1.up λo e=>up _ o D.i1z e) (j2.up λo e=>up _ o D.i2z e) t8 λc o n1 n2 n3 n4 e=>up c o n1 (k5 c o n1 n2 n3 n4 e)
theorem p7{k1 k2:Bool}{z T U i1 i2 l1 l2:Addr}{n1 n2:Nat}{xs ys:Array Value}{a b:Value}{Q:Fin->Shared->Prop}(hh:A.handled=none)(D:ZipApart z T U i1 i2 l1 l2)(hz:IsZip s.heap z T U .none)(hT:IsPair s.heap T (.ref i1) (.ref i2))(hU:IsPair s.heap U a b)
  (c1:ItK k1 s.heap i1 l1 n1) (c2:ItK k2 s.heap i2 l2 n2) (d1:SeqK k1 s.heap l1 xs) (d2:SeqK k2 s.heap l2 ys) (en:xs[n1]? =none\/ys[n2]? =none)
  (q:∀ h' x,(∀ c o,c≠z->c≠U->c≠i1->c≠i2->s.heap.get? c=some o->h'.get? c=some o)->(∃ o,h'.get? x=some o/\o.cls=.type "StopIteration")->E (.ref x) { s with heap:=h' }) :
  wpAny (model P w) A (Builtin.«zip.__next__» ⟨[.ref z],[]⟩) Q E s:=by
 show wpAny (model P w) A (field (.ref z) 2 >>= _) _ _ s
 refine wpAny_bind (wpAny_field hz rfl (x:=.bool false) rfl ?_)
 show wpAny (model P w) A (field (.ref z) 3 >>= _) _ _ s
 refine wpAny_bind (wpAny_field hz rfl (x:=.ref T) rfl (wpAny_bind (wpAny_seqItems hT rfl ?_)))
 show wpAny (model P w) A (Builtin.SmallTypes.ownedTupleIsFree (.ref z) >>= _) _ _ s
 unfold Builtin.SmallTypes.ownedTupleIsFree
 refine wpAny_bind (wpAny_bind (wpAny_field hz rfl (x:=.none) rfl (wpAny_pure ?_)))
 simp only[if_true]
 refine wpAny_bind (wpAny_rule (wpAny_bind (wpAny_field hz rfl (x:=.ref U) rfl (wpAny_bind (wpAny_setField_rec hz (by simp) λh1 g1 b1=> ?_)))))
 have g1:IsZip h1 z T U .ellipsis:=g1
 refine wpAny_bind ?_
 simp only[List.zipIdx_cons,List.zipIdx_nil,List.forIn_cons,List.forIn_nil]
 refine wpAny_bind (wpAny_bind (wpAny_onRaise ?_))
 show wpAny (model P w) A (Builtin.SmallTypes.nextOf (.ref i1) >>= _) _ _ _
 cases ex:xs[n1]? with
 | none =>
  refine wpAny_bind (WT hh (c1.up λo e=>b1.extBut _ o D.i1z e) (d1.up λo e=>b1.extBut _ o D.l1z e) ex λh2 x b2 ⟨ox,o1,o2⟩=> ?_)
  have z2:IsZip h2 z T U .ellipsis:=b2 _ _ D.i1z.symm g1
  have ne:x≠z:=λe=>by subst e;rw[z2]at o1;cases o1;simp at o2
  exact wpAny_setField_rec z2 (by simp) λh3 _ b3=>q h3 x (λc o m1 _ m3 _ e=>b3.extBut _ _ m1 (b2 _ _ m3 (b1.extBut _ _ m1 e))) ⟨ox,b3.extBut _ _ ne o1,o2⟩
 | some x =>
  have ey:ys[n2]? =none:=en.elim (λe=>by rw[ex]at e;cases e) id
  refine wpAny_bind (PK (c1.up λo e=>b1.extBut _ o D.i1z e) (d1.up λo e=>b1.extBut _ o D.l1z e) ex λh2 g2 b2=>wpAny_pure ?_)
  have u2:IsPair h2 U a b:=b2.extBut _ _ D.TOi1 (b1.extBut _ _ D.TOz hU)
  refine wpAny_bind (wpAny_seqItems u2 rfl (wpAny_bind (wpAny_updateSeq_pair u2 λh3 u3 b3=>wpAny_bind (wpAny_letGo (wpAny_pure ?_)))))
  refine wpAny_bind (wpAny_bind (wpAny_onRaise ?_))
  show wpAny (model P w) A (Builtin.SmallTypes.nextOf (.ref i2) >>= _) _ _ _
  refine wpAny_bind (WT hh (c2.up λo e=>b3.extBut _ o D.TOi2.symm (b2.extBut _ o D.i12.symm (b1.extBut _ o D.i2z e))) (d2.up λo e=>b3.extBut _ o D.l2TO (b2.extBut _ o D.l2i1 (b1.extBut _ o D.l2z e))) ey λh4 x' b4 ⟨ox,o1,o2⟩=> ?_)
  have z4:IsZip h4 z T U .ellipsis:=b4 _ _ D.i2z.symm (b3.extBut _ _ D.TOz.symm (b2.extBut _ _ D.i1z.symm g1))
  have ne:x'≠z:=λe=>by subst e;rw[z4]at o1;cases o1;simp at o2
  exact wpAny_setField_rec z4 (by simp) λh5 _ b5=>q h5 x' (λc o m1 m2 m3 m4 e=>b5.extBut _ _ m1 (b4 _ _ m4 (b3.extBut _ _ m2 (b2.extBut _ _ m3 (b1.extBut _ _ m1 e))))) ⟨ox,b5.extBut _ _ ne o1,o2⟩
theorem p8{k1 k2:Bool}{z T U i1 i2 l1 l2:Addr}{n1 n2:Nat}{xs ys:Array Value}{x y a b:Value}{Q:Option Value->Shared->Prop}(D:ZipApart z T U i1 i2 l1 l2)(hz:IsZip s.heap z T U .none)(hT:IsPair s.heap T (.ref i1) (.ref i2))(hU:IsPair s.heap U a b)
  (c1:ItK k1 s.heap i1 l1 n1) (c2:ItK k2 s.heap i2 l2 n2) (d1:SeqK k1 s.heap l1 xs) (d2:SeqK k2 s.heap l2 ys) (ex:xs[n1]? =some x) (ey:ys[n2]? =some y)
  (q:∀ h',IsZip h' z T U (rawInt s.heap.objs.size)->IsPair h' U x y->ItK k1 h' i1 l1 (n1+1)->ItK k2 h' i2 l2 (n2+1)->IsPair h' s.heap.objs.size x y →
   (∀ c o,c≠z->c≠U->c≠i1->c≠i2->s.heap.get? c=some o->h'.get? c=some o)->Q (some (.ref s.heap.objs.size)) { s with heap:=h' }):wpAny (model P w) A (pyNext (.ref z)) Q E s:=by
 have ty:s.TypeIs (.ref z) "zip":=⟨_,hz,rfl⟩
 unfold pyNext
 exact wpAny_bind (wpAny_attempt (wpAny_callSpecial?_slot (name:=Str.ofString "__next__") ty F.slot_zip_next (wpAny_call_entry F.slot_zip_next ty F.entry_zip_next
  (p0 D hz hT hU c1 c2 d1 d2 ex ey λh' a1 a2 a3 a4 a5 a6=>wpAny_pure (q h' a1 a2 a3 a4 a5 a6)) (F.args_zip_next_1 _))))
theorem p9{k1 k2:Bool}{z T U i1 i2 l1 l2:Addr}{n1 n2:Nat}{xs ys:Array Value}{a b:Value}{Q:Option Value->Shared->Prop}(hh:A.handled=none)(D:ZipApart z T U i1 i2 l1 l2)(hz:IsZip s.heap z T U .none)(hT:IsPair s.heap T (.ref i1) (.ref i2))(hU:IsPair s.heap U a b)
  (c1:ItK k1 s.heap i1 l1 n1) (c2:ItK k2 s.heap i2 l2 n2) (d1:SeqK k1 s.heap l1 xs) (d2:SeqK k2 s.heap l2 ys) (en:xs[n1]? =none\/ys[n2]? =none)
  (q:∀ h',(∀ c o,c≠z->c≠U->c≠i1->c≠i2->s.heap.get? c=some o->h'.get? c=some o)->Q none { s with heap:=h' }):wpAny (model P w) A (pyNext (.ref z)) Q E s:=by
 have ty:s.TypeIs (.ref z) "zip":=⟨_,hz,rfl⟩
 unfold pyNext
 refine wpAny_bind (wpAny_attempt (wpAny_callSpecial?_slot (name:=Str.ofString "__next__") ty F.slot_zip_next (wpAny_call_entry F.slot_zip_next ty F.entry_zip_next (p7 hh D hz hT hU c1 c2 d1 d2 en λh' x kk ⟨o,e1,e2⟩=> ?_) (F.args_zip_next_1 _))))
 exact wpAny_bind (wpAny_isInstance (T:="StopIteration") (b:=true) ⟨o,e1,e2⟩ isSubtype_stop (wpAny_pure (q _ kk)))
end
def qA(k:Bool):String:=if k then "list_iterator" else "tuple_iterator"
abbrev LH(k:Bool)(l:Addr):Obj:={ cls:=.type (qA k),data:=.fields #[.ref l,.int 0 0] }
theorem WU{k:Bool}{h:Heap}{j l:Addr}(e:h.get? j=some (LH k l)):ItK k h j l 0:=by
 cases k<;>exact⟨_,e,rfl,rfl⟩
theorem WV{P:Program}{w:World}{A:Around}{E:Value->Shared->Prop}{s:Shared}{k:Bool}{t:Addr}{its:Array Value}{Q:Value->Shared->Prop}(d:SeqK k s.heap t its)
  (q:Q (.ref s.heap.objs.size) { s with heap:=s.heap.push (LH k t) }):wpAny (model P w) A (pyIter (.ref t)) Q E s:=by
 cases k
 ·exact wpAny_pyIter_tuple d q
 ·exact wpAny_pyIter_list d q
abbrev NF(h:Heap)(k:Bool)(l:Addr):Heap:=h.push (LH k l)
abbrev NG(h:Heap)(k k':Bool)(l l':Addr):Heap:=(NF h k l).push (LH k' l')
abbrev NH(h:Heap)(k k':Bool)(l l':Addr):Heap:=(NG h k k' l l').push { cls:=.type "tuple",data:=.seq #[.ref h.objs.size,.ref (NF h k l).objs.size] }
abbrev NI(h:Heap)(k k':Bool)(l l':Addr):Heap:=(NH h k k' l l').push { cls:=.type "tuple",data:=.seq #[.none,.none] }
abbrev IV(h:Heap)(k k':Bool)(l l':Addr):Heap:=(NI h k k' l l').push { cls:=.type "zip",data:=.fields #[.none,.bool false,.bool false,.ref (NG h k k' l l').objs.size,.ref (NH h k k' l l').objs.size] }
theorem qB(k k':Bool)(l l':Addr)(xs ys:Array Value):Meets (Builtin.«zip.__new__» ⟨[.type "zip",.ref l,.ref l'],[]⟩)
  (λ_ R s=>SeqK k s.heap l xs/\SeqK k' s.heap l' ys/\R (.ok (.ret (.ref (NI s.heap k k' l l').objs.size))) { s with heap:=IV s.heap k k' l l' }) :=
 .of_wp λprog w A R s h=>by
  obtain⟨hp,g,d,tk,os⟩:=s;obtain⟨d1,d2,h⟩:=h
  have sub:=sub_zip
  have e1:SeqK k (Shared.heap ⟨hp,g,d,tk,os⟩) l xs:=d1
  have e2:SeqK k' (Shared.heap ⟨hp.push (LH k l),g,d,tk,os⟩) l' ys:=d2.up λo e=>Heap.get?_push_of_some _ e
  wp_walk using WV e1,WV e2
  exact⟨_,rfl,h⟩
section
variable{P:Program}{w:World}{A:Around}{E:Value->Shared->Prop}{s:Shared}
theorem qC{k k':Bool}{l l':Addr}{xs ys:Array Value}{Q:Value->Shared->Prop}(d1:SeqK k s.heap l xs)(d2:SeqK k' s.heap l' ys)
  (q:∀ h',IsZip h' (s.heap.objs.size+4) (s.heap.objs.size+2) (s.heap.objs.size+3) .none->IsPair h' (s.heap.objs.size+2) (.ref s.heap.objs.size) (.ref (s.heap.objs.size+1))->IsPair h' (s.heap.objs.size+3) .none .none →
   ItK k h' s.heap.objs.size l 0->ItK k' h' (s.heap.objs.size+1) l' 0->(∀ c o,s.heap.get? c=some o->h'.get? c=some o)->Q (.ref (s.heap.objs.size+4)) { s with heap:=h' }) :
  wpAny (model P w) A (call (.type "zip") [.ref l,.ref l']) Q E s:=by
 refine callType_new F.called_zip (by decide) (F.typeCall_zip_2 _ _) (F.newCall_zip_2 _ _) (λob=>F.args_object_init_3 ob _ _) F.entry_zip_new (qB k k' l l' xs ys) ⟨d1,d2,?_⟩
 have s1:(NF s.heap k l).objs.size=s.heap.objs.size+1:=Heap.size_push ..
 have s2:(NG s.heap k k' l l').objs.size=s.heap.objs.size+2:=by rw[Heap.size_push,s1]
 have s3:(NH s.heap k k' l l').objs.size=s.heap.objs.size+3:=by rw[Heap.size_push,s2]
 have s4:(NI s.heap k k' l l').objs.size=s.heap.objs.size+4:=by rw[Heap.size_push,s3]
 have p5:(IV s.heap k k' l l').get? (NI s.heap k k' l l').objs.size=some _:=Heap.get?_push_size _ rfl
 have p4:(IV s.heap k k' l l').get? (NH s.heap k k' l l').objs.size=some _:=Heap.get?_push_of_some _ (Heap.get?_push_size _ rfl)
 have p3:(IV s.heap k k' l l').get? (NG s.heap k k' l l').objs.size=some _:=Heap.get?_push_of_some _ (Heap.get?_push_of_some _ (Heap.get?_push_size _ rfl))
 have p2:(IV s.heap k k' l l').get? (NF s.heap k l).objs.size=some _:=Heap.get?_push_of_some _ (Heap.get?_push_of_some _ (Heap.get?_push_of_some _ (Heap.get?_push_size _ rfl)))
 have p1:(IV s.heap k k' l l').get? s.heap.objs.size=some _:=Heap.get?_push_of_some _ (Heap.get?_push_of_some _ (Heap.get?_push_of_some _ (Heap.get?_push_of_some _ (Heap.get?_push_size _ rfl))))
 show _/\_
 rw[s2,s3,s4]at p5
 rw[s1,s2]at p3
 rw[s3]at p4
 rw[s1]at p2
 rw[s4]
 exact⟨⟨_,p5,rfl⟩,q _ p5 p3 p4 (WU p1) (WU p2) λc o e=>Heap.get?_push_of_some _ (Heap.get?_push_of_some _ (Heap.get?_push_of_some _ (Heap.get?_push_of_some _ (Heap.get?_push_of_some _ e))))⟩
end
theorem Inv.turnedS{X:Cx}{pins:List (Addr × Obj)}{σ:St}{H:Hp}{s:Shared}{h':Heap}{t':Nat}{fp:List Addr}(I:Inv X pins σ H s)(k:∀ b o,b∉fp->s.heap.get? b=some o->h'.get? b=some o)(hf:∀ b∈fp,FpOk X pins H b):Inv X pins σ H { s with heap:=h',toks:=t' }:=by
 have nit:∀ b u,H b=some u->b∉fp:=λb u e z=>by rw[(hf b z).1]at e;cases e
 refine I.step (g':=s.gens) (d':=s.drawn) (ch:=fp) (λb hb=> ?_) (λb o _ _ hc e _=>k b o hc e) (λb o _ _ hc e _=>⟨o.slots,k b o hc e⟩) (λ_ _ _ _ n=>n)
  (λb o hc e=>⟨o,k b o hc e⟩) (λ_ _ e=>e) (λ_ _ _ e=>e) (λb ps e=>⟨#[],by rw[e];simp⟩) (λm hm=> ?_) (λb u e=> ?_) I.bare
 ·obtain⟨_,f1,_,f3,f4,f5⟩:=hf b hb
  exact⟨f3,f1,f4,f5⟩
 ·obtain⟨o,es,ep,ho,r⟩:=hm
  exact⟨o,es,ep,k _ o (λz=>(hf _ z).2.1 rfl) ho,r⟩
 ·refine(I.hok b u e).stay (λc v hc q=>k c v ?_ q) (λ_ q=>q) λ_ _ q=>q
  rcases hc with z | z
  ·rw[z];exact nit b u e
  ·exact nit c _ z
def SqB(K:W.Frag)(k:Bool)(H:Hp)(a:Addr)(xs:List V):Prop:=if k then SqL K H a xs else SqT K H a xs
def NJ(K:W.Frag)(k k':Bool)(a b:Addr):It :=
  ⟨λi H=>∃ xs ys x y,SqB K k H a xs/\SqB K k' H b ys/\xs[i]? =some x/\ys[i]? =some y,
   λi H v H'=>∃ t,H t=none/\v=.ref t/\∃ x y,H'=upd H t (.tup [x,y])/\(∀ xs,SqB K k H a xs->xs[i]? =some x)/\∀ ys,SqB K k' H b ys->ys[i]? =some y,
   λi H=>∃ xs ys,SqB K k H a xs/\SqB K k' H b ys/\(xs.length<=i\/ys.length<=i)⟩
theorem Inv.seqK{X:Cx}{pins:List (Addr × Obj)}{σ:St}{H:Hp}{s:Shared}{k:Bool}{a:Addr}{xs:List V}(I:Inv X pins σ H s)(q:SqB X.K k H a xs):∃ its,Vals xs its/\SeqK k s.heap a its.toArray:=by
 cases k
 ·obtain⟨its,rv,p,_⟩:=I.tuple q
  exact⟨its,rv,p⟩
 ·obtain⟨its,rv,p,_⟩:=I.list q
  exact⟨its,rv,p.isList⟩
theorem Inv.seqK_inj{X:Cx}{pins:List (Addr × Obj)}{σ:St}{H:Hp}{s:Shared}{k:Bool}{a:Addr}{xs ys:List V}(I:Inv X pins σ H s)(p:SqB X.K k H a xs)(q:SqB X.K k H a ys):xs=ys:=by
 cases k
 ·exact I.tuple_inj p q
 ·exact I.list_inj p q
theorem SeqK.lt{k:Bool}{h:Heap}{a:Addr}{xs:Array Value}(x:SeqK k h a xs):a<h.objs.size:=by
 cases k<;>exact(let ⟨_,e,_⟩:=x;Heap.lt_size e)
theorem SeqK.nit{k:Bool}{h:Heap}{a b:Addr}{xs:Array Value}(x:SeqK k h a xs){o:Obj}(e:h.get? b=some o)(n:∀ its m,o.data≠.seq its m):a≠b:=by
 intro z
 subst z
 cases k<;>(obtain⟨o',e',_,m,d⟩:=x;rw[e]at e';cases e';exact n _ _ d)
def ZipSt(k k':Bool)(z l l':Addr)(f:Value)(i:Nat)(h:Heap)(T U j j':Addr):Prop :=
 IsZip h z T U f/\IsPair h T (.ref j) (.ref j')/\(∃ a b,IsPair h U a b)/\ItK k h j l i/\ItK k' h j' l' i
structure Five(z T U j j':Addr):Prop where
 a1:T≠z
 a2:U≠z
 a3:j≠z
 a4:j'≠z
 a5:T≠U
 a6:T≠j
 a7:T≠j'
 a8:U≠j
 a9:U≠j'
 a10:j≠j'
theorem SqB.off{X:Cx}{pins:List (Addr × Obj)}{σ:St}{H:Hp}{s:Shared}{k:Bool}{m b:Addr}{zs:List V}(I:Inv X pins σ H s)(q:SqB X.K k H m zs)(f:FpOk X pins H b):m≠b:=by
 intro e
 subst e
 obtain⟨f0,_,_,f3,_⟩:=f
 have no:∀ o,X.K.lookup m=some o->False:=λo hk=>by
  have e:=I.mod.kin m o hk
  rcases f3 with z | z
  ·exact I.ok.noex _ _ e z
  ·exact absurd (Heap.lt_size (I.ok.bs _ _ e).1) (Nat.not_lt.mpr z)
 have nr:∀ u,Rd H m u->False:=λu r=>by
  rcases r with r | ⟨o,r⟩<;>(rw[f0]at r;cases r)
 cases k
 ·rcases q with q | ⟨o,_,_,hk,_⟩
  ·exact nr _ q
  ·exact no o hk
 ·rcases q with q | ⟨o,_,_,hk,_⟩
  ·exact nr _ q
  ·exact no o hk
theorem FpOk.upd{X:Cx}{pins:List (Addr × Obj)}{H:Hp}{a b:Addr}{o:HO}(f:FpOk X pins H b)(n:b≠a):FpOk X pins (upd H a o) b:=⟨(AI n).trans f.1,f.2⟩
theorem ZipSt.lt{k k':Bool}{z l l' T U j j':Addr}{f:Value}{i:Nat}{h:Heap}(q:ZipSt k k' z l l' f i h T U j j'):∀ b∈[z,T,U,j,j'],b<h.objs.size:=by
 obtain⟨h1,h2,⟨a,b',h3⟩,h4,h5⟩:=q
 obtain⟨o4,e4,_⟩:=h4.ob
 obtain⟨o5,e5,_⟩:=h5.ob
 intro b hb
 simp only[List.mem_cons,List.not_mem_nil,or_false]at hb
 rcases hb with rfl | rfl | rfl | rfl | rfl
 ·exact Heap.lt_size h1
 ·exact Heap.lt_size h2
 ·exact Heap.lt_size h3
 ·exact Heap.lt_size e4
 ·exact Heap.lt_size e5
theorem Five.apart{z T U j j' l l':Addr}(D:Five z T U j j')(n:∀ b∈[z,T,U,j,j'],l≠b)(n':∀ b∈[z,T,U,j,j'],l'≠b):ZipApart z T U j j' l l' :=
 ⟨D.a1,D.a2,D.a3,D.a4,D.a5,D.a6,D.a7,D.a8,D.a9,D.a10,n _ (by simp),n _ (by simp),n _ (by simp),n _ (by simp),n' _ (by simp),n' _ (by simp),n' _ (by simp),n' _ (by simp)⟩
theorem qD{P:Program}{w:World}{K:W.Frag}{elts:List Expr}{kn:Nat}{pos:Pos}{k k':Bool}{z T U j j' l l':Addr}(D:Five z T U j j') :
  G5 P w K (.Tuple elts kn pos) (NJ K k k' l l') [z,T,U,j,j'] z (λi h=>ZipSt k k' z l l' .none i h T U j j') where
 mem:=by simp
 obj:=λi h st b hb=>by
  obtain⟨h1,h2,⟨a,b',h3⟩,h4,h5⟩:=st
  obtain⟨o4,e4,d4⟩:=h4.ob
  obtain⟨o5,e5,d5⟩:=h5.ob
  simp only[List.mem_cons,List.not_mem_nil,or_false]at hb
  rcases hb with rfl | rfl | rfl | rfl | rfl
  ·exact⟨_,h1,λv q=>by cases q⟩
  ·exact⟨_,h2,λv q=>by cases q⟩
  ·exact⟨_,h3,λv q=>by cases q⟩
  ·exact⟨_,e4,λv q=>by rw[d4]at q;cases q⟩
  ·exact⟨_,e5,λv q=>by rw[d5]at q;cases q⟩
 keep:=λi h h' ⟨h1,h2,⟨a,b,h3⟩,h4,h5⟩ q=>⟨q z (by simp) _ h1,q T (by simp) _ h2,⟨a,b,q U (by simp) _ h3⟩,h4.up λo e=>q j (by simp) o e,h5.up λo e=>q j' (by simp) o e⟩
 item:=by
  intro X hP hw hK hc i pins s σ H E I hf st hg
  subst hP hw hK
  obtain⟨xs,ys,x,y,hx,hy,ex,ey⟩:=hg
  obtain⟨its,rv,d1⟩:=I.seqK hx
  obtain⟨jts,rw',d2⟩:=I.seqK hy
  obtain⟨u,hu,ru⟩:=rv.get ex
  obtain⟨v,hv,rv'⟩:=rw'.get ey
  have lt:=ZipSt.lt st
  obtain⟨h1,h2,⟨a,b,h3⟩,h4,h5⟩:=st
  have AP:ZipApart z T U j j' l l':=D.apart (λb hb=>hx.off I (hf b hb)) λb hb=>hy.off I (hf b hb)
  refine p8 AP h1 h2 h3 h4 h5 d1 d2 (x:=u) (y:=v) (by simpa using hu) (by simpa using hv) λh' g1 g2 g3 g4 g5 kk=>⟨_,rfl,?_⟩
  refine wpAny_letOwnedTupleGo_zip g1 λh2' z2 sb=> ?_
  have I1:=I.tnew (.cons ru (.cons rv' .nil)) (by show 2<=sizeLine;decide)
  have f':∀ b∈[z,T,U,j,j'],b≠s.heap.objs.size:=λb hb=>Nat.ne_of_lt (lt b hb)
  have nz:s.heap.objs.size≠z:=(f' z (by simp)).symm
  have I2:Inv X pins σ (upd H s.heap.objs.size (.tup [x,y])) { s with heap:=h2' }:=by
   refine Inv.turnedS (s:={ s with heap:=s.heap.push { cls:=Value.type "tuple",data:=Data.seq #[u,v] } }) (t':=s.toks) (fp:=[z,T,U,j,j']) I1 (λb o hb e=> ?_) λb hb=>(hf b hb).upd (f' b hb)
   simp only[List.mem_cons,List.not_mem_nil,or_false,not_or]at hb
   rcases Heap.get?_push_cases e with⟨e1,e2⟩ | e1
   ·subst e1 e2
    exact sb.extBut _ _ nz g5
   ·exact sb.extBut _ _ hb.1 (kk _ _ hb.1 hb.2.2.1 hb.2.2.2.1 hb.2.2.2.2 e1)
  exact⟨.ref s.heap.objs.size,_,I2,rfl,⟨s.heap.objs.size,I.fresh,rfl,x,y,rfl,λys' q=>by rw[I.seqK_inj q hx];exact ex,λys' q=>by rw[I.seqK_inj q hy];exact ey⟩,
   ⟨z2,sb.extBut _ _ D.a1 (kk _ _ D.a1 D.a5 D.a6 D.a7 h2),⟨_,_,sb.extBut _ _ D.a2 g2⟩,g3.up λo e=>sb.extBut _ _ D.a3 e,g4.up λo e=>sb.extBut _ _ D.a4 e⟩,λb hb=>((hf b hb).upd (f' b hb)).1⟩
 done:=by
  intro X hP hw hK hc i pins s σ H E I hf st hg
  subst hP hw hK
  obtain⟨xs,ys,hx,hy,en⟩:=hg
  obtain⟨its,rv,d1⟩:=I.seqK hx
  obtain⟨jts,rw',d2⟩:=I.seqK hy
  obtain⟨h1,h2,⟨a,b,h3⟩,h4,h5⟩:=st
  have e1:=rv.length
  have e2:=rw'.length
  refine p9 (I.ok.hd hc) (D.apart (λb hb=>hx.off I (hf b hb)) λb hb=>hy.off I (hf b hb)) h1 h2 h3 h4 h5 d1 d2 (by simp;omega) λh' kk=>⟨rfl,I.turnedS (t':=s.toks) (fp:=[z,T,U,j,j']) (λb o hb e=> ?_) hf⟩
  simp only[List.mem_cons,List.not_mem_nil,or_false,not_or]at hb
  exact kk _ _ hb.1 hb.2.2.1 hb.2.2.2.1 hb.2.2.2.2 e
 self:=λ_ _ _ _ _ st h=>wpAny_pyIter_zip st.1 h
section
variable{X:Cx}{tg:Expr}
def PL(K:W.Frag)(ta:TA):TI:=λσ H R=>ta σ H λvs H1=>∃ (k k':Bool) (a b:Addr),vs=[.ref a,.ref b]/\(∃ xs,SqB K k H1 a xs)/\(∃ ys,SqB K k' H1 b ys)/\R (NJ K k k' a b) H1
theorem qE{a b:Expr}{ta:TA}{p pos p2:Pos}{elts:List Expr}{kn:Nat}(hg:Gl X "zip")(hm:X.mg "zip"=none)(ha:PA X [a,b] ta)(hs:starEach [a,b] X.env=[(false,eval a X.env),(false,eval b X.env)]:=by rfl)(hs2:starEach [b] X.env=[(false,eval b X.env)]:=by rfl) :
  PI X (.Tuple elts kn p2) (.Call (.Name "zip" p) [a,b] [] pos) (PL X.K ta):=by
 intro pins s σ H R I h
 refine Call_ (KS I hg hm boot_zip (PyProof.Rows.callWith_type1 (AM (ha pos pins s σ H _ I h) λus s1 ⟨vs,H1,I1,r1,q1⟩=> ?_) (by rw[hs,hs2]) (by rw[hs2];rfl)))
 obtain⟨k,k',l,l',e,⟨xs,hx⟩,⟨ys,hy⟩,q⟩:=q1
 subst e
 obtain⟨u,v,rfl,rx,ry⟩:=Vals.two r1
 cases rx
 cases ry
 obtain⟨its,rv,d1⟩:=I1.seqK hx
 obtain⟨jts,rw',d2⟩:=I1.seqK hy
 refine qC d1 d2 λh' z1 z2 z3 z4 z5 kk=>wpAny_pyIter_zip z1 ?_
 have I2:Inv X pins σ H1 { s1 with heap:=h' }:=I1.kept (t':=s1.toks) kk
 refine⟨_,[s1.heap.objs.size+4,s1.heap.objs.size+2,s1.heap.objs.size+3,s1.heap.objs.size,s1.heap.objs.size+1],_,_,H1,rfl,I2,qD ⟨?_,?_,?_,?_,?_,?_,?_,?_,?_,?_⟩,⟨z1,z2,⟨_,_,z3⟩,z4,z5⟩,λb hb=>I1.fpOk ?_ (I1.hok.fresh ?_),q⟩
 all_goals first | exact Nat.ne_of_lt (by omega) | exact Nat.ne_of_gt (by omega) | skip
 all_goals
  simp only[List.mem_cons,List.not_mem_nil,or_false]at hb
  rcases hb with rfl | rfl | rfl | rfl | rfl<;>omega
end
theorem Fun.none{P:Program}{w:World}{K:W.Frag}{mg:Str->Option Value}{base:Heap}{x qual:Str}{st:Stmt}{f:Addr}{fd:FuncData}{N ps:List Str}{k:Nat}{sp:Sp}(F:Fun K x qual st f fd)(S:FnScope N ps (AO st))(no:∀ vs H Q E,sp vs H Q E->False):FnOk P w K mg base (CQ P w) (k+1) f fd ps sp :=
 F.okE S (λvs H Q E h=>(no vs H Q E h).elim) λ_ _ _ _ H vs Q E _ h=>(no vs H Q E h).elim
theorem qF{K:W.Frag}{as:TA}{g:TG}{s1:TS}{D:Ends}{σ:St}{H:Hp}:B7 (PL K as) g s1 D σ H=(as σ H λvs H1=>∃ (k k':Bool) (a b:Addr),vs=[.ref a,.ref b]/\(∃ xs,SqB K k H1 a xs)/\(∃ ys,SqB K k' H1 b ys)/\DE (NJ K k k' a b) g s1 D σ H1):=rfl
theorem qG{K:W.Frag}{σ:St}{H:Hp}{k k':Bool}{a b:Addr}{xs ys:List V}{g:TG}{tb:TS}{D:Ends}(hl:xs.length=ys.length)(Pv:Nat->St->Hp->Prop)(h0:Pv 0 σ H)(ha:∀ i σ H,i<=xs.length->Pv i σ H->SqB K k H a xs/\SqB K k' H b ys)
  (hs:∀ i x y σ H t,xs[i]? =some x->ys[i]? =some y->Pv i σ H->H t=none->g (.ref t) σ (upd H t (.tup [x,y])) λσ2 H2=>tb { D with nx:=Pv (i+1),ct:=Pv (i+1),bk:=D.nx } σ2 H2) (hd:∀ σ H,Pv xs.length σ H->D.nx σ H):DE (NJ K k k' a b) g tb D σ H:=by
 refine⟨λi m σ H=>i+m=xs.length/\Pv i σ H,⟨xs.length,by omega,h0⟩,λi m σ H ⟨e,p⟩=> ?_⟩
 obtain⟨h1,h2⟩:=ha i σ H (by omega) p
 by_cases hi:i<xs.length
 ·refine .inr ⟨⟨xs,ys,xs[i],ys[i],h1,h2,List.getElem?_eq_getElem hi,List.getElem?_eq_getElem (by omega)⟩,Pv (i+1),λσ' H' q=>⟨m - 1,by omega,by omega,q⟩,λv H' ⟨t,ht,e,x,y,e',q1,q2⟩=> ?_⟩
  subst e e'
  exact hs i x y σ H t (q1 _ h1) (q2 _ h2) p ht
 ·have e:i=xs.length:=by omega
  subst e
  exact .inl ⟨⟨xs,ys,h1,h2,.inl (Nat.le_refl _)⟩,hd _ _ p⟩
end L2
namespace L2
section
variable{X:Cx}{tg:Expr}
def PM(K:W.Frag):List V->Hp->VK->Prop:=λxs H Q=>∃ i j,xs=[.int i,.int j]/\Q (.int (if j > i then j else i)) H
theorem qH(hc:X.calm=true):CallR X (.builtin "max") (PM X.K):=iH hc
end
theorem qI{K:W.Frag}{i j:Int}{H:Hp}{Q:VK}:PM K [.int i,.int j] H Q=Q (.int (if j > i then j else i)) H:=propext ⟨λ⟨_,_,e,q⟩=>by cases e;exact q,λq=>⟨_,_,rfl,q⟩⟩
section
variable{P:Program}{w:World}{A:Around}{E:Value->Shared->Prop}{s:Shared}
end
section
variable{X:Cx}
def WW(k:Nat):List V:=(List.range k).map λ(i:Nat)=>V.int (i:Int)
end
end L2
namespace L2
open PySem
abbrev FF(l:List Nat):Prop:=l.Pairwise (· <·)
theorem LI{l:List Nat}(R:FF l){i k a b:Nat}(h:i<k)(ha:l[i]? =some a)(hb:l[k]? =some b):a<b:=by
 obtain⟨h1,rfl⟩:=List.getElem?_eq_some_iff.mp ha
 obtain⟨h2,rfl⟩:=List.getElem?_eq_some_iff.mp hb
 exact List.pairwise_iff_getElem.mp R i k h1 h2 h
structure Below(xs:Array Nat)(j r:Nat):Prop where
 le:r<=xs.size
 lo:∀ i v,i<r->xs.toList[i]? =some v->v<j
 hi:∀ i v,r<=i->xs.toList[i]? =some v->j<=v
theorem PN{xs:Array Nat}{j:Nat}(R:FF xs.toList):∀ (fuel lo hi:Nat),lo<=hi->hi<=xs.size->hi - lo<=fuel->(∀ i v,i<lo->xs.toList[i]? =some v->v<j)->(∀ i v,hi<=i->xs.toList[i]? =some v->j<=v) →
  Below xs j (SetTable.below.go xs j fuel lo hi)
 | 0,lo,hi,h1,h2,h3,a,b=>by
  have e:lo=hi:=by omega
  subst e
  exact⟨h2,a,b⟩
 | fuel+1,lo,hi,h1,h2,h3,a,b=>by
  unfold SetTable.below.go
  by_cases hlt:lo<hi
  ·rw[if_pos hlt]
   have hm:(lo+hi) / 2<xs.size:=by omega
   have em:xs.toList[(lo+hi) / 2]? =some (xs[(lo+hi) / 2]):=by simp[hm]
   have ed:xs.getD ((lo+hi) / 2) j=xs[(lo+hi) / 2]:=by simp[hm]
   simp only[ed]
   split
   ·rename_i hv
    refine PN R fuel _ _ (by omega) h2 (by omega) (λi v hi' e=> ?_) b
    by_cases q:i=(lo+hi) / 2
    ·subst q;rw[em]at e;cases e;exact hv
    ·exact Nat.lt_trans (LI R (show i<(lo+hi) / 2 by omega) e em) hv
   ·rename_i hv
    refine PN R fuel _ _ (by omega) (by omega) (by omega) a λi v hi' e=> ?_
    by_cases q:i=(lo+hi) / 2
    ·subst q;rw[em]at e;cases e;omega
    ·have:=LI R (show(lo+hi) / 2<i by omega) em e
     omega
  ·rw[if_neg hlt]
   have e:lo=hi:=by omega
   subst e
   exact⟨h2,a,b⟩
theorem PP{xs:Array Nat}{j:Nat}(R:FF xs.toList):Below xs j (SetTable.below xs j) :=
 PN R _ _ _ (Nat.zero_le _) (Nat.le_refl _) (by omega) (λ_ _ h=>absurd h (Nat.not_lt_zero _)) λi v h e=>by
  rw[List.getElem?_eq_none (by simpa using h)]at e;cases e
theorem Below.uniq{xs:Array Nat}{j r r':Nat}(a:Below xs j r)(b:Below xs j r'):r=r':=by
 rcases Nat.lt_trichotomy r r' with h | h | h
 ·have hs:r<xs.size:=Nat.lt_of_lt_of_le h b.le
  have e:xs.toList[r]? =some (xs[r]):=by simp[hs]
  have:=b.lo _ _ h e
  have:=a.hi _ _ (Nat.le_refl _) e
  omega
 ·exact h
 ·have hs:r'<xs.size:=Nat.lt_of_lt_of_le h a.le
  have e:xs.toList[r']? =some (xs[r']):=by simp[hs]
  have:=a.lo _ _ h e
  have:=b.hi _ _ (Nat.le_refl _) e
  omega
def NotIn(t:SetTable)(j:Nat):Prop:=t.place[SetTable.below t.place j]? ≠some j
theorem qJ{t:SetTable}{j:Nat}(h:t.slot j=.empty):NotIn t j:=λe=>by
 unfold SetTable.slot at h
 simp only[e,beq_self_eq_true,if_true]at h
 cases h
theorem qK{t:SetTable}{j:Nat}(h:t.slot j=.dummy):NotIn t j:=λe=>by
 unfold SetTable.slot at h
 simp only[e,beq_self_eq_true,if_true]at h
 cases h
theorem WX(t:SetTable)(p:SetTable.Probe):(t.advance p).dummy=p.dummy:=by
 unfold SetTable.advance
 split<;>rfl
theorem PQ{t:SetTable}{f:Nat->Int}{h:Int}:∀ (fuel:Nat) (p:SetTable.Probe) (j:Nat) (d:Option Nat),SetTable.probe.go t f h fuel p=some (.empty j d)->(∀ x,p.dummy=some x->NotIn t x)->NotIn t (d.getD j)
 | 0,p,j,d,e,_=>by cases e
 | fuel+1,p,j,d,e,hd=>by
  unfold SetTable.probe.go at e
  split at e
  ·rename_i hs
   cases e
   cases q:p.dummy with
   | none=>exact qJ hs
   | some x=>exact hd x q
  ·rename_i hs
   refine PQ fuel _ j d e λx hx=> ?_
   rw[WX]at hx
   cases hx
   exact qK hs
  ·rename_i i hs
   split at e
   ·cases e
   ·exact PQ fuel _ j d e λx hx=>by rw[WX]at hx;exact hd x hx
theorem qL{t:SetTable}{h:Int}{s:Nat}{b:Bool}(e:t.freeSlot h=some (s,b)):NotIn t s:=by
 unfold SetTable.freeSlot at e
 split at e
 ·rename_i j d hp
  cases e
  refine PQ _ _ _ _ hp λx hx=> ?_
  cases hx
 ·cases e
theorem qM(n:Nat):FF (Array.range n).toList:=by
 rw[Array.toList_range]
 exact List.pairwise_lt_range
theorem qN {t:SetTable} {j:Nat} (R:FF t.place.toList) (h:NotIn t j):FF (t.put j).1.place.toList:=by
  have b:=PP (j:=j) R
  show FF (SetTable.insertAt t.place (SetTable.below t.place j) j).toList
  rw[SetTable.toList_insertAt]
  have hlo:∀ v∈t.place.toList.take (SetTable.below t.place j),v<j:=λv hv=>by
    obtain⟨i,hi,e⟩:=List.getElem_of_mem hv
    have hi':i<SetTable.below t.place j:=by rw[List.length_take]at hi;omega
    refine b.lo i v hi' ?_
    rw[<-e];simp only[List.getElem_take];exact List.getElem?_eq_getElem _
  have hhi:∀ v∈t.place.toList.drop (SetTable.below t.place j),j<v:=λv hv=>by
    obtain⟨i,hi,e⟩:=List.getElem_of_mem hv
    have e2:t.place.toList[SetTable.below t.place j+i]? =some v:=by
      rw[<-List.getElem?_drop,List.getElem?_eq_getElem hi,e]
    have:=b.hi _ _ (Nat.le_add_right _ _) e2
    by_cases q:j=v
    · subst q
      have z:i=0:=by
        by_cases z:i=0
        ·exact z
        · have hl:SetTable.below t.place j<t.place.toList.length:=by
            rw[List.length_drop]at hi;omega
          have e3:=List.getElem?_eq_getElem hl
          have:=LI R (show SetTable.below t.place j<SetTable.below t.place j+i by omega) e3 e2
          have:=b.hi _ _ (Nat.le_refl _) e3
          omega
      subst z
      rw[Nat.add_zero,Array.getElem?_toList]at e2
      exact absurd e2 h
    ·omega
  refine List.pairwise_append.mpr ⟨R.sublist (List.take_sublist ..),List.pairwise_cons.mpr ⟨hhi,R.sublist (List.drop_sublist ..)⟩,λx hx y hy=> ?_⟩
  rcases List.mem_cons.mp hy with rfl | hy
  ·exact hlo x hx
  ·exact Nat.lt_trans (hlo x hx) (hhi y hy)
structure Led(led:Bool)(t:SetTable):Prop where
 rise:FF t.place.toList
 led:t.led=led
theorem Led.standIn{led:Bool}{t:SetTable}(h:t.led=led)(n:Nat):Led led (t.standIn n):=⟨qM n,h⟩
theorem Led.or{led:Bool}{t:SetTable}(h:Led led t)(n:Nat):Led led (t.orStandIn n):=by
 unfold SetTable.orStandIn
 split
 ·exact h
 ·exact .standIn h.led n
theorem Led.layNew{led:Bool}{t:SetTable}(L:Led led t)(es:Array (Int × Value))(h:Int)(x:Value):Led led (layNew t es h x).2.1:=by
 unfold PySem.layNew
 split
 ·rename_i slot b e
  exact Led.or ⟨qN L.rise (qL e),L.led⟩ _
 ·exact .standIn L.led _
theorem qO(owner:Array (Option Nat))(m:Nat):FF (((List.range m).filterMap λj=>(owner.getD j none).map (j,·)).map (·.1)):=by
 rw[List.map_filterMap]
 refine(List.pairwise_lt_range (n:=m)).filterMap _ λa b hab x hx y hy=> ?_
 simp only[Option.mem_def,Option.map_map,Option.map_eq_some_iff,Function.comp_apply]at hx hy
 obtain⟨_,_,rfl⟩:=hx
 obtain⟨_,_,rfl⟩:=hy
 exact hab
theorem Led.relayAll{led:Bool}{t:SetTable}(h:t.led=led)(L:Led led t)(es:Array (Int × Value))(wanted:Nat):Led led (relayAll t es wanted).2.1:=by
 unfold PySem.relayAll
 split
 ·rename_i t' order e
  dsimp only
  split
  ·unfold SetTable.relaid SetTable.laid at e
   simp only[Option.bind_eq_bind,Option.bind_eq_some_iff,Option.pure_def,Option.some.injEq,Prod.mk.injEq]at e
   obtain⟨owner,_,rfl,_⟩:=e
   exact⟨by simpa using qO owner _,h⟩
  ·exact .standIn h _
 ·exact .standIn h _
theorem Led.plainOff{led:Bool}{t:SetTable}(L:Led led t):Led led { t with plain:=false }:=⟨L.rise,L.led⟩
theorem Led.fresh(led:Bool):Led led (.fresh 0 0 led):=⟨List.Pairwise.nil,rfl⟩
def IW(xs:Array Nat):Nat->Nat
 | 0=>0
 | i+1=>xs.getD i 0+1
theorem qP{xs:Array Nat}(R:FF xs.toList):∀ {i:Nat},i<=xs.size->SetTable.below xs (IW xs i)=i
 | 0,_=>(PP R).uniq ⟨Nat.zero_le _,λ_ _ h=>absurd h (Nat.not_lt_zero _),λ_ _ _ _=>Nat.zero_le _⟩
 | i+1,hi=>(PP R).uniq ⟨hi,λk v hk e=>by
   have hi':i<xs.size:=by omega
   have ei:xs.toList[i]? =some xs[i]:=by simp[hi']
   have ed:xs.getD i 0=xs[i]:=by simp[hi']
   show v<xs.getD i 0+1
   rw[ed]
   by_cases q:k=i
   ·subst q;rw[ei]at e;cases e;omega
   ·have:=LI R (show k<i by omega) e ei
    omega,λk v hk e=>by
   have hi':i<xs.size:=by omega
   have ei:xs.toList[i]? =some xs[i]:=by simp[hi']
   have ed:xs.getD i 0=xs[i]:=by simp[hi']
   show xs.getD i 0+1<=v
   rw[ed]
   exact LI R (show i<k by omega) ei e⟩
theorem WY{α :Type}(next:Nat->Nat):∀ (fuel k:Nat) (left:List α) (out:Array α),left.length=fuel->List.Perm (pickOrder.go next fuel k left out).toList (out.toList++left)
 | 0,k,left,out,h=>by
  rw[List.length_eq_zero_iff.mp h]
  unfold pickOrder.go
  simp
 | fuel+1,k,left,out,h=>by
  unfold pickOrder.go
  have hl:next k % left.length<left.length:=Nat.mod_lt _ (by omega)
  rw[List.getElem?_eq_getElem hl]
  dsimp only
  refine(WY next fuel (k+1) _ _ (by rw[List.length_eraseIdx_of_lt hl];omega)).trans ?_
  rw[Array.toList_push,List.append_assoc]
  refine List.Perm.append_left _ ?_
  rw[List.eraseIdx_eq_take_drop_succ]
  show List.Perm (left[next k % left.length]::(left.take (next k % left.length)++left.drop (next k % left.length+1))) left
  refine List.perm_middle.symm.trans ?_
  rw[<-List.drop_eq_getElem_cons hl,List.take_append_drop]
theorem qQ{α :Type}(next:Nat->Nat)(xs:Array α):List.Perm (pickOrder next xs).toList xs.toList:=by
 have:=WY next xs.size 0 xs.toList #[] (by simp)
 simpa [pickOrder]using this
end L2
namespace L2
open PySem PyProof.Rows
def HJ(w:World):Bool:= !w.params.followText "set-order"
def iv:Value->Int
 | .int n _=>n
 | _=>0
def IntSet(P:Program)(w:World)(h:Heap)(a:Addr)(ms:List Int):Prop :=
 ∃ (o:Obj) (es:Array (Int × Value)) (ep:Nat) (t:SetTable),h.get? a=some o/\o.ExactSet/\o.data=.set es ep t/\ElemsOf (intKind P w) es.toList ∧
  List.Perm (es.toList.map λe=>iv e.2) ms/\es.size<scanBound/\t.fits es.size=true/\Led (HJ w) t
section
variable{P:Program}{w:World}{A:Around}{E:Value->Shared->Prop}{s:Shared}
theorem PR{es:List (Int × Value)}(h:ElemsOf (intKind P w) es){e:Int × Value}(he:e∈es):∃ t,e.2=.int (iv e.2) t:=by
 obtain⟨⟨k,hk,_⟩,_⟩:=h e he
 obtain⟨t,z⟩:=Value.isInt_shape hk
 exact⟨t,by rw[z];rfl⟩
theorem WZ{es:List (Int × Value)}(h:ElemsOf (intKind P w) es){e:Int × Value}(he:e∈es){k:Int}:(intKind P w).is k e.2=true↔iv e.2=k:=by
 obtain⟨t,z⟩:=PR h he
 rw[z]
 refine⟨λq=> ?_,λq=> ?_⟩
 ·have q':Value.isInt k (.int (iv e.2) t)=true:=q
  obtain⟨t',z'⟩:=Value.isInt_shape q'
  cases z';rfl
 ·rw[<-q];exact intKind_is ..
theorem W0{es:List (Int × Value)}{ms:List Int}(h:ElemsOf (intKind P w) es)(p:List.Perm (es.map λe=>iv e.2) ms)(k:Int):k∈ms↔∃ e∈es,(intKind P w).is k e.2=true:=by
 rw[<-p.mem_iff,List.mem_map]
 exact⟨λ⟨e,he,q⟩=>⟨e,he,(WZ h he).mpr q⟩,λ⟨e,he,q⟩=>⟨e,he,(WZ h he).mp q⟩⟩
theorem W1{h:Heap}{a:Addr}{o:Obj}{es es':Array (Int × Value)}{ep:Nat}{t t':SetTable}{ms:List Int}(ho:h.get? a=some o)(hex:o.ExactSet)(hd:o.data=.set es ep t)
  (hel:ElemsOf (intKind P w) es'.toList) (hp:List.Perm (es'.toList.map λe=>iv e.2) ms) (hb:es'.size<scanBound) (hf:t'.fits es'.size=true) (L:Led (HJ w) t') :
  (h.update a (Obj.putSet es' t')).get? a=some { o with data:=.set es' (ep+1) t' }/\IntSet P w (h.update a (Obj.putSet es' t')) a ms:=by
 have g:=(SetOf_store (knd:=intKind P w) (S':=λk=>es'.toList.any λe=>(intKind P w).is k e.2) ho hex hd hel (λk=>by rw[List.any_eq_true]) hb hf).1
 exact⟨g,_,es',ep+1,t',g,hex,rfl,hel,hp,hb,hf,L⟩
theorem W2{g:Bool->Sem Unit}(hg:∀ (b:Bool) (s1:Shared) (R:Unit->Shared->Prop),R () s1->wpAny (model P w) A (g b) R E s1){a:Addr}{o:Obj}{es e1:Array (Int × Value)}{ep:Nat}{t t1:SetTable}{ms:List Int}{wd:Bool}
  (ho:s.heap.get? a=some o) (hex:o.ExactSet) (hd:o.data=.set es ep t) (hel:ElemsOf (intKind P w) e1.toList) (hp:List.Perm (e1.toList.map λe=>iv e.2) ms) (hb:e1.size<scanBound) (hf:t1.fits e1.size=true) (L:Led (HJ w) t1)
  {R:Option Bool->Shared->Prop} (h:∀ h',Heap.SameBut a s.heap h'->IntSet P w h' a ms->R (some true) { s with heap:=h' }) :
  wpAny (model P w) A (do
   storeSet a e1 t1
   if(!wd && t1.tooFull)=true then do
    g (relayAll t1 e1 (SetTable.grown e1.size)).2.2
    storeSet a (relayAll t1 e1 (SetTable.grown e1.size)).1 (relayAll t1 e1 (SetTable.grown e1.size)).2.1
    pure (some true)
   else pure (some true)) R E s:=by
 refine wpAny_bind (wpAny_storeSet_of ho hd ?_ (fits_of_scanBound hb))
 obtain⟨g1,S1⟩:=W1 ho hex hd hel hp hb hf L
 have sb1:=Heap.SameBut.update s.heap a (Obj.putSet e1 t1)
 split
 ·have p2:=relayAll_perm t1 e1 (SetTable.grown e1.size)
  have f2:=relayAll_fits t1 e1 (SetTable.grown e1.size)
  have L2:=Led.relayAll L.led L e1 (SetTable.grown e1.size)
  revert p2 f2 L2
  generalize relayAll t1 e1 (SetTable.grown e1.size)=r
  obtain⟨e2,t2,gv⟩:=r
  intro p2 f2 L2
  dsimp only at p2 f2 L2 ⊢
  have z2:e2.size=e1.size:=by rw[<-Array.length_toList,p2.length_eq,Array.length_toList]
  have b2:e2.size<scanBound:=z2 ▸ hb
  refine wpAny_bind (hg _ _ _ ?_)
  refine wpAny_bind (wpAny_storeSet_of g1 rfl ?_ (fits_of_scanBound b2))
  obtain⟨_,S2⟩:=W1 (P:=P) (w:=w) g1 hex rfl (hel.perm p2) ((p2.map _).trans hp) b2 f2 L2
  exact wpAny_pure (h _ (sb1.trans (Heap.SameBut.update ..)) S2)
 ·exact wpAny_pure (h _ sb1 S1)
theorem W3{ms:List Int}{k:Int}(h:k∈ms):step_dedup ms k=ms:=by
 unfold step_dedup
 have e:(ms.any λx=>x == k)=true:=List.any_eq_true.mpr ⟨k,h,beq_self_eq_true k⟩
 rw[if_pos e]
theorem W4{ms:List Int}{k:Int}(h:¬ k∈ms):step_dedup ms k=ms++[k]:=by
 unfold step_dedup
 rw[if_neg λz=> ?_]
 obtain⟨x,hx,q⟩:=List.any_eq_true.mp z
 rw[beq_iff_eq]at q
 exact h (q ▸ hx)
theorem qR{a:Addr}{ms:List Int}{k:Int}{tk:Tok}{Q:Bool->Shared->Prop}(hS:IntSet P w s.heap a ms)(hr:ms.length+1<scanBound)
    (h:∀ (b:Bool) h',Heap.SameBut a s.heap h'->IntSet P w h' a (step_dedup ms k)->Q b { s with heap:=h' }):wpAny (model P w) A (setAddHashed a (.int k tk) ((intKind P w).hash k)) Q E s:=by
  have hk:(intKind P w).is k (.int k tk)=true:=intKind_is ..
  have hsc:(Value.int k tk).scannable=true:=rfl
  generalize Value.int k tk=x at hk hsc
  obtain⟨o,es,ep,t,ho,hex,hd,hel,hp,hb,hf,L⟩:=hS
  have hlen:es.size=ms.length:=by rw[<-hp.length_eq,List.length_map,Array.length_toList]
  have hivx:iv x=k:=by obtain⟨_,z⟩:=Value.isInt_shape hk;rw[z];rfl
  unfold setAddHashed setAddHashedIn
  refine wpAny_holding (wpAny_bind (wpAny_setState_of ho hd hf ?_))
  dsimp only
  rw[byScan_of hsc hb hel,if_pos rfl]
  unfold setAddByScan
  refine wpAny_bind (wpAny_bind (wpAny_rule (wpAny_bind (wpAny_setScan_of hk ho hd hf hel ?_))))
  cases hx:es.toList.findIdx? (λe=>(intKind P w).is k e.2)with
  | some j =>
    dsimp only
    obtain⟨hj,pj,_⟩:=List.findIdx?_eq_some_iff_getElem.mp hx
    have hm:k∈ms:=(W0 hel hp k).mpr ⟨_,List.getElem_mem hj,pj⟩
    refine wpAny_pure (wpAny_pure ?_)
    have:=h false s.heap (Heap.SameBut.refl a s.heap) ⟨o,es,ep,t,ho,hex,hd,hel,by rw[W3 hm];exact hp,hb,hf,L⟩
    exact this
  | none =>
    dsimp only
    have hm:¬ k∈ms:=λz=>by
      obtain⟨e,he,q⟩:=(W0 hel hp k).mp z
      have:=List.findIdx?_eq_none_iff.mp hx e he
      rw[q]at this;cases this
    have p1:=layNew_perm t es ((intKind P w).hash k) x
    have f1:=layNew_fits t es ((intKind P w).hash k) x
    have L1:=L.layNew es ((intKind P w).hash k) x
    revert p1 f1 L1
    generalize layNew t es ((intKind P w).hash k) x=r
    obtain⟨e1,t1,wd,gv⟩:=r
    intro p1 f1 L1
    dsimp only at p1 f1 L1 ⊢
    rw[Array.toList_push]at p1
    have hel1:ElemsOf (intKind P w) e1.toList:=(hel.push hk hsc).perm p1
    have hp1:List.Perm (e1.toList.map λe=>iv e.2) (step_dedup ms k):=by
      rw[W4 hm]
      refine(p1.map _).trans ?_
      rw[List.map_append,List.map_cons,List.map_nil,hivx]
      exact List.Perm.append_right _ hp
    have hb1:e1.size<scanBound:=by
      rw[<-Array.length_toList,p1.length_eq,List.length_append,Array.length_toList,hlen]
      exact hr
    have gw:∀ (b:Bool) (s1:Shared) (R:Unit->Shared->Prop),R () s1 →
        wpAny (model P w) A (match b with
          | true=>rule "set.scan.the-table-gave-way"
          | false=>pure ()) R E s1:=λb s1 R q=>by
      cases b
      ·exact wpAny_pure q
      ·exact wpAny_rule q
    refine wpAny_bind (gw _ _ _ ?_)
    split
    · refine wpAny_bind ?_
      rw[hashByValue_scannable 8 hsc]
      refine wpAny_pure (W2 ?_ ho hex hd hel1 hp1 hb1 ?_ ?_ λh' sb S'=> ?_)
      · intro b s1 R q
        cases b
        ·exact wpAny_pure q
        ·exact wpAny_rule q
      · split
        ·exact f1
        ·exact SetTable.fits_plain_off f1
      · split
        ·exact L1
        ·exact L1.plainOff
      ·dsimp only;exact wpAny_pure (h _ h' sb S')
    · refine wpAny_bind (wpAny_pure ?_)
      rw[if_pos rfl]
      refine W2 ?_ ho hex hd hel1 hp1 hb1 f1 L1 λh' sb S'=> ?_
      · intro b s1 R q
        cases b
        ·exact wpAny_pure q
        ·exact wpAny_rule q
      ·dsimp only;exact wpAny_pure (h _ h' sb S')
theorem IntSet.at{h h':Heap}{a:Addr}{ms:List Int}(x:IntSet P w h a ms)(k:∀ o,h.get? a=some o->h'.get? a=some o):IntSet P w h' a ms:=by
 obtain⟨o,es,ep,t,ho,r⟩:=x
 exact⟨o,es,ep,t,k _ ho,r⟩
end
section
variable{P:Program}{w:World}{A:Around}{R:Result->Shared->Prop}{I:Addr}{fp wr:List Addr}{G:Array GenState->Array GenState->Prop}{n:Nat}{T:Nat->Value->Prop}{St:Nat->Shared->Prop}
theorem qS(W:WalksS P w A.in1 I fp wr G n T St)(a:Addr)(ha:a∉fp)(val:Nat->Int)(hv:∀ i v,T i v->∃ t,v=.int (val i) t)(hb:n+1<scanBound):∀ (k i:Nat) (s:Shared),n - i=k->i<=n->St i s →
  IntSet P w s.heap a (firstMet val i)->(∀ s',Moved (a::wr) G s s'->IntSet P w s'.heap a (firstMet val n)->R (.ok (.ret .none)) s') →
  codeAny (model P w) A (.builtin "set.update.loop" ⟨[.ref a,.ref I],[]⟩) R s:=by
 have haw:a∉wr:=λz=>ha (W.sub _ z)
 have up:∀ b∈wr,b∈a::wr:=λb q=>List.mem_cons_of_mem _ q
 intro k
 induction k with
 | zero =>
  intro i s e1 e2 st S q
  obtain rfl:i=n:=by omega
  refine codeAny_builtin PyProof.Rows.F.entry_set_update_loop ?_
  rw[Around.under_plainId PyProof.Rows.F.plain_set_update_loop _]
  show wpAny _ A.in1 (pyNext (.ref I) >>= _) _ _ s
  refine wpAny_bind (W.done s _ _ st λs' m=> ?_)
  show wpAny _ A.in1 (ret Value.none) _ _ s'
  exact wpAny_pure (q s' (m.mono up) (S.at λo e=>m.heap a o haw e))
 | succ k ih =>
  intro i s e1 e2 st S q
  have hi:i<n:=by omega
  refine codeAny_builtin PyProof.Rows.F.entry_set_update_loop ?_
  rw[Around.under_plainId PyProof.Rows.F.plain_set_update_loop _]
  show wpAny _ A.in1 (pyNext (.ref I) >>= _) _ _ s
  refine wpAny_bind (W.item i s _ _ hi st λv s1 tv st1 m=> ?_)
  obtain⟨t,rfl⟩:=hv i v tv
  have S1:=S.at λo e=>m.heap a o haw e
  show wpAny _ A.in1 (holding [Value.int (val i) t] (setAdd a (.int (val i) t)) >>= _) _ _ s1
  refine wpAny_bind (wpAny_holding ?_)
  unfold setAdd
  refine wpAny_holding (wpAny_bind ((intKind P w).pyHash (k:=val i) (intKind_is ..) ?_))
  refine qR (s:={ s1 with toks:=s1.toks+1 }) S1 (by have:=firstMet_length_le val i;omega) λb h' sb S2=> ?_
  rw[<-firstMet_succ]at S2
  refine wpAny_pure ⟨plainId_quiet PyProof.Rows.F.plain_set_update_loop _,ih (i+1) _ (by omega) hi (W.frame _ s1 _ _ st1 (Nat.le_succ _) λb hb o e=> ?_) S2 λs2 m2 S3=> ?_⟩
  ·rw[sb.2 b λz:b=a=>ha (z ▸ hb)];exact e
  ·refine q s2 (Moved.trans W.gtrans ((m.mono up).then_heap (Nat.le_succ _) λb o hb e=> ?_) m2) S3
   rw[sb.2 b λz:b=a=>hb (z ▸ List.mem_cons_self)];exact e
end
section
variable{P:Program}{w:World}{A:Around}{E:Value->Shared->Prop}{s:Shared}
theorem qT{x:Value}{Q:Value->Shared->Prop}(h:Q (.ref s.heap.objs.size) { s with heap:=s.heap.push { cls:=.type "set",dict:=none,data:=.set #[] 0 (.fresh 0 0 (HJ w)) } }) :
  codeAny (model P w) A (.call (.builtin "set.__new__") ⟨[.type "set",x],[]⟩) (wants Q E) s:=by
 refine codeAny_of_tree ?_
 show wpAny _ A.in1 (checkBuiltinCall "set.__new__" ⟨[.type "set",x],[]⟩ >>= λ_=>again (.builtin "set.__new__" ⟨[.type "set",x],[]⟩)) _ _ s
 refine wpAny_bind (wpAny_of_eq (PySem.F.newCall_set_1 x) (wpAny_pure ⟨plainId_quiet PySem.F.plain_set_new _,codeAny_builtin PySem.F.entry_set_new ?_⟩))
 rw[Around.under_plainId PySem.F.plain_set_new _]
 unfold Builtin.«set.__new__» Builtin.Frozenset.newClass
 have e:=sub_set_self
 obtain⟨hp,g,d,tk,os⟩:=s
 dsimp only
 wp_walk
 refine wpAny_askSetting (wpAny_pure ?_)
 dsimp only
 simp only[newObj]
 exact wpAny_bind (wpAny_alloc (wpAny_pure (wpAny_pure h)))
end
end L2
namespace L2
open PySem PyProof.Rows
abbrev EY(f:Value)(i:Nat)(a:Addr)(n ep:Nat):Obj:={ cls:=.type "set_iterator",dict:=none,data:=.fields #[f,rawInt i,.ref a,rawInt n,rawInt ep],slots:= #[] }
theorem EZ:Slot "set_iterator" "__next__" "set_iterator.__next__" :=
 .of (owner:="set_iterator") (n:="__next__") (by rw[typeLookup_type,builtinLookup_eq_fast];kernel_rfl) (by decide +kernel) (by decide +kernel) (by decide +kernel)
  (by first | exact .inl (by decide +kernel) | exact .inr (by decide +kernel))
  (by rw[isSubtype_type];kernel_rfl)
theorem NK:entryFor table "set_iterator.__next__"=some Builtin.«set_iterator.__next__» :=entryFor_of_fast (by kernel_rfl)
theorem NL(a:Value):argsOk "set_iterator.__next__" ⟨[a],[]⟩:=by
 unfold argsOk
 kernel_rfl
theorem W5:Slot "set_iterator" "__iter__" "set_iterator.__iter__" :=
 .of (owner:="set_iterator") (n:="__iter__") (by rw[typeLookup_type,builtinLookup_eq_fast];kernel_rfl) (by decide +kernel) (by decide +kernel) (by decide +kernel)
  (by first | exact .inl (by decide +kernel) | exact .inr (by decide +kernel))
  (by rw[isSubtype_type];kernel_rfl)
section
variable{P:Program}{w:World}{A:Around}{E:Value->Shared->Prop}{s:Shared}
theorem qU{it a:Addr}{sl i n ep nx:Nat}{x:Value}{o:Obj}{es:Array (Int × Value)}{ep':Nat}{t:SetTable}{Q:Option Value->Shared->Prop}(hit:s.heap.get? it=some (EY (rawInt sl) i a n ep))
  (ho:s.heap.get? a=some o) (hd:o.data=.set es ep' t) (hf:t.fits es.size=true) (hn:es.size=n)
  (hs:∀ (A':Around) (E':Value->Shared->Prop) (Q':Option (Value × Nat)->Shared->Prop),Q' (some (x,nx)) s->wpAny (model P w) A' (setNext a sl i ep) Q' E' s)
  (q:∀ h',h'.get? it=some (EY (rawInt nx) (i+1) a n ep)->Heap.SameBut it s.heap h'->Q (some x) { s with heap:=h' }):wpAny (model P w) A (pyNext (.ref it)) Q E s:=by
 have T:s.TypeIs (.ref it) "set_iterator":=⟨_,hit,rfl⟩
 unfold pyNext
 refine wpAny_bind (wpAny_attempt (wpAny_callSpecial?_slot (name:=Str.ofString "__next__") T EZ (wpAny_call_entry EZ T NK ?_ (NL _))))
 unfold Builtin.«set_iterator.__next__»
 refine wpAny_bind (wpAny_pure ?_)
 refine wpAny_bind (wpAny_fieldsOf hit rfl ?_)
 show wpAny _ _ (setEntries a >>= _) _ _ s
 refine wpAny_bind (wpAny_setEntries_of ho hd hf ?_)
 rw[if_neg (by rw[hn];simp)]
 show wpAny _ _ (setNext a (sl:Int).toNat (i:Int).toNat (ep:Int).toNat >>= _) _ _ s
 rw[Int.toNat_natCast,Int.toNat_natCast,Int.toNat_natCast]
 refine wpAny_bind (hs _ _ _ ?_)
 dsimp only
 refine wpAny_bind (wpAny_setField_rec hit (by simp) λh1 g1 b1=> ?_)
 refine wpAny_bind (wpAny_setField_rec g1 (by simp) λh2 g2 b2=> ?_)
 exact wpAny_pure ⟨_,rfl,wpAny_pure (q h2 g2 (b1.trans b2))⟩
theorem W6{it:Addr}{h1:Heap}{Q:Except Value (Option Value)->Shared->Prop}(hh:A.handled=none)(hx:Heap.ExtBut it s.heap h1)
  (q:∀ h' e,Heap.ExtBut it s.heap h'->({ s with heap:=h' }:Shared).TypeIs e "StopIteration"->Q (.error e) { s with heap:=h' }) :
  wpAny (model P w) A (newExc (.type "StopIteration") [] >>= raiseNew (α :=Fin)) (λ_ _=>False) (λe=>Q (.error e)) { s with heap:=h1 }:=by
 refine wpAny_bind ?_
 simp only[newExc,newTuple]
 refine wpAny_bind (wpAny_newObj_type ?_ (by size_fits))
 refine wpAny_bind (m:=firstArgMember _ _) (wpAny_of_eq (a:=Value.none) (by first | rfl | (simp only[firstArgMember];rfl)) ?_)
 refine wpAny_newObj_type ?_ (by size_fits)
 simp only[raiseNew]
 refine wpAny_bind (wpAny_handled ?_)
 rw[hh]
 refine wpAny_bind (wpAny_pure (wpAny_throw ?_))
 exact q _ _ ((hx.push _).push _) ⟨_,Heap.get?_push_size _ rfl,rfl⟩
theorem qV{it a:Addr}{sl i n ep:Nat}{o:Obj}{es:Array (Int × Value)}{ep':Nat}{t:SetTable}{Q:Option Value->Shared->Prop}(hh:A.handled=none)(hit:s.heap.get? it=some (EY (rawInt sl) i a n ep))
  (ho:s.heap.get? a=some o) (hd:o.data=.set es ep' t) (hf:t.fits es.size=true) (hn:es.size=n)
  (hs:∀ (A':Around) (E':Value->Shared->Prop) (Q':Option (Value × Nat)->Shared->Prop),Q' none s->wpAny (model P w) A' (setNext a sl i ep) Q' E' s)
  (q:∀ h',Heap.ExtBut it s.heap h'->Q none { s with heap:=h' }):wpAny (model P w) A (pyNext (.ref it)) Q E s:=by
 have T:s.TypeIs (.ref it) "set_iterator":=⟨_,hit,rfl⟩
 unfold pyNext
 refine wpAny_bind (wpAny_attempt (wpAny_callSpecial?_slot (name:=Str.ofString "__next__") T EZ (wpAny_call_entry EZ T NK ?_ (NL _))))
 unfold Builtin.«set_iterator.__next__»
 refine wpAny_bind (wpAny_pure ?_)
 refine wpAny_bind (wpAny_fieldsOf hit rfl ?_)
 show wpAny _ _ (setEntries a >>= _) _ _ s
 refine wpAny_bind (wpAny_setEntries_of ho hd hf ?_)
 rw[if_neg (by rw[hn];simp)]
 show wpAny _ _ (setNext a (sl:Int).toNat (i:Int).toNat (ep:Int).toNat >>= _) _ _ s
 rw[Int.toNat_natCast,Int.toNat_natCast,Int.toNat_natCast]
 refine wpAny_bind (hs _ _ _ ?_)
 dsimp only
 refine wpAny_bind (wpAny_setField_rec hit (by simp) λh1 g1 b1=> ?_)
 refine wpAny_mono (W6 (s:=s) (it:=it) (A:=A.in1) (Q:=λr s'=>match r with
  | .error e=>wpAny (model P w) A (isInstance e (.type "StopIteration") >>= λb=>if b=true then pure none else throw e) Q E s'
  | _=>False) (by simpa using hh) b1.extBut λh' e hx te=> ?_) (λ_ _ z=>z.elim) (λe s' z=>z)
 refine wpAny_bind (wpAny_isInstance (T:="StopIteration") (b:=true) te isSubtype_stop ?_)
 exact wpAny_pure (q _ hx)
theorem qW{it a tp:Addr}{i n ep pl:Nat}{ot:Obj}{ps:Array Value}{k:Nat}{x:Int × Value}{o:Obj}{es:Array (Int × Value)}{t:SetTable}{Q:Option Value->Shared->Prop}(hit:s.heap.get? it=some (EY (.ref tp) i a n ep))
  (ho:s.heap.get? a=some o) (hd:o.data=.set es ep t) (hf:t.fits es.size=true) (hn:es.size=n) (ht:s.heap.get? tp=some ot) (hdt:ot.data=.seq ps k) (hp:ps[i]? =some (rawInt pl)) (hx:es[pl]? =some x)
  (q:∀ h',h'.get? it=some (EY (.ref tp) (i+1) a n ep)->Heap.SameBut it s.heap h'->Q (some x.2) { s with heap:=h' }):wpAny (model P w) A (pyNext (.ref it)) Q E s:=by
 have T:s.TypeIs (.ref it) "set_iterator":=⟨_,hit,rfl⟩
 unfold pyNext
 refine wpAny_bind (wpAny_attempt (wpAny_callSpecial?_slot (name:=Str.ofString "__next__") T EZ (wpAny_call_entry EZ T NK ?_ (NL _))))
 unfold Builtin.«set_iterator.__next__»
 refine wpAny_bind (wpAny_pure ?_)
 refine wpAny_bind (wpAny_fieldsOf hit rfl ?_)
 show wpAny _ _ (setEntries a >>= _) _ _ s
 refine wpAny_bind (wpAny_setEntries_of ho hd hf ?_)
 rw[if_neg (by rw[hn];simp)]
 show wpAny _ _ (seqItems? (.ref tp) >>= _) _ _ s
 refine wpAny_bind (wpAny_seqItems ht hdt ?_)
 dsimp only
 rw[Int.toNat_natCast,hp]
 show wpAny _ _ (setNextDrawn a (pl:Int).toNat (ep:Int).toNat >>= _) _ _ s
 rw[Int.toNat_natCast,Int.toNat_natCast]
 unfold setNextDrawn
 refine wpAny_bind (wpAny_bind (wpAny_setState_of ho hd hf ?_))
 dsimp only
 rw[if_neg (by simp)]
 obtain⟨x1,x2⟩:=x
 rw[hx]
 refine wpAny_pure ?_
 refine wpAny_bind (wpAny_setField_rec hit (by simp) λh2 g2 b2=> ?_)
 exact wpAny_pure ⟨_,rfl,wpAny_pure (q h2 g2 b2)⟩
theorem qX{it a tp:Addr}{i n ep:Nat}{ot:Obj}{ps:Array Value}{k:Nat}{o:Obj}{es:Array (Int × Value)}{t:SetTable}{Q:Option Value->Shared->Prop}(hh:A.handled=none)(hit:s.heap.get? it=some (EY (.ref tp) i a n ep))
  (ho:s.heap.get? a=some o) (hd:o.data=.set es ep t) (hf:t.fits es.size=true) (hn:es.size=n) (ht:s.heap.get? tp=some ot) (hdt:ot.data=.seq ps k) (hp:ps[i]? =none)
  (q:∀ h',Heap.ExtBut it s.heap h'->Q none { s with heap:=h' }):wpAny (model P w) A (pyNext (.ref it)) Q E s:=by
 have T:s.TypeIs (.ref it) "set_iterator":=⟨_,hit,rfl⟩
 unfold pyNext
 refine wpAny_bind (wpAny_attempt (wpAny_callSpecial?_slot (name:=Str.ofString "__next__") T EZ (wpAny_call_entry EZ T NK ?_ (NL _))))
 unfold Builtin.«set_iterator.__next__»
 refine wpAny_bind (wpAny_pure ?_)
 refine wpAny_bind (wpAny_fieldsOf hit rfl ?_)
 show wpAny _ _ (setEntries a >>= _) _ _ s
 refine wpAny_bind (wpAny_setEntries_of ho hd hf ?_)
 rw[if_neg (by rw[hn];simp)]
 show wpAny _ _ (seqItems? (.ref tp) >>= _) _ _ s
 refine wpAny_bind (wpAny_seqItems ht hdt ?_)
 dsimp only
 rw[Int.toNat_natCast,hp]
 dsimp only
 refine wpAny_bind (wpAny_setField_rec hit (by simp) λh1 g1 b1=> ?_)
 refine wpAny_bind (wpAny_setField_rec g1 (by simp) λh2 g2 b2=> ?_)
 refine wpAny_mono (W6 (s:=s) (it:=it) (A:=A.in1) (Q:=λr s'=>match r with
  | .error e=>wpAny (model P w) A (isInstance e (.type "StopIteration") >>= λb=>if b=true then pure none else throw e) Q E s'
  | _=>False) (by simpa using hh) (b1.trans b2).extBut λh' e hx te=> ?_) (λ_ _ z=>z.elim) (λe s' z=>z)
 refine wpAny_bind (wpAny_isInstance (T:="StopIteration") (b:=true) te isSubtype_stop ?_)
 exact wpAny_pure (q _ hx)
theorem qY{a:Addr}{o:Obj}{es:Array (Int × Value)}{ep:Nat}{t:SetTable}{i:Nat}{Q:Option (Value × Nat)->Shared->Prop}(ft:w.params.followText "set-order"=true)(ho:s.heap.get? a=some o)(hd:o.data=.set es ep t)(hf:t.fits es.size=true)
  (q:Q (((pickOrder (w.params.setOrder a ep) es)[i]?).map λe=>(e.2,0)) s):wpAny (model P w) A (setNext a 0 i ep) Q E s:=by
 unfold setNext
 refine wpAny_bind (wpAny_setState_of ho hd hf ?_)
 dsimp only
 refine wpAny_bind ?_
 unfold setsByText
 refine wpAny_bind (wpAny_askSetting (wpAny_pure ?_))
 show wpAny _ _ (if w.params.followText "set-order"=true then _ else _) _ _ s
 rw[if_pos ft,if_neg (by simp)]
 refine wpAny_bind ?_
 unfold setWalk
 refine wpAny_bind (wpAny_setState_of ho hd hf ?_)
 dsimp only
 refine wpAny_bind ?_
 unfold setsByText
 refine wpAny_bind (wpAny_askSetting (wpAny_pure ?_))
 show wpAny _ _ (if w.params.followText "set-order"=true then _ else _) _ _ s
 rw[if_pos ft]
 refine wpAny_bind (wpAny_askSetting (wpAny_pure ?_))
 exact wpAny_pure q
theorem qZ{a:Addr}{o:Obj}{es:Array (Int × Value)}{ep:Nat}{t:SetTable}{i:Nat}{Q:Option (Value × Nat)->Shared->Prop}(ft:w.params.followText "set-order"=false)(ho:s.heap.get? a=some o)(hd:o.data=.set es ep t)(hf:t.fits es.size=true)
  (L:Led (HJ w) t) (pl:(!t.plain && decide (es.size > 1))=false) (hi:i<=es.size) (q:Q ((es[i]?).map λe=>(e.2,IW t.place (i+1))) s):wpAny (model P w) A (setNext a (IW t.place i) i ep) Q E s:=by
 have hz:t.place.size=es.size:=by
  unfold SetTable.fits at hf
  simp only[Bool.and_eq_true,beq_iff_eq]at hf
  exact hf.1
 unfold setNext
 refine wpAny_bind (wpAny_setState_of ho hd hf ?_)
 dsimp only
 refine wpAny_bind ?_
 unfold setsByText
 refine wpAny_bind (wpAny_askSetting (wpAny_pure ?_))
 show wpAny _ _ (if w.params.followText "set-order"=true then _ else _) _ _ s
 rw[if_neg (show ¬ w.params.followText "set-order"=true by rw[ft];exact Bool.false_ne_true)]
 have ld:t.led=true:=by rw[L.led];unfold HJ;rw[ft];rfl
 show wpAny _ _ (if(!t.plain && decide (es.size > 1))=true then _ else _) _ _ s
 rw[if_neg (by rw[pl];exact Bool.false_ne_true)]
 refine wpAny_bind (m:=if(!t.led && !es.isEmpty)=true then _ else _) ?_
 rw[if_neg (by rw[ld];simp)]
 refine wpAny_pure (wpAny_pure ?_)
 rw[qP L.rise (by omega)]
 by_cases hlt:i<es.size
 ·have h2:i<t.place.size:=by omega
  rw[Array.getElem?_eq_getElem hlt,Array.getElem?_eq_getElem h2]
  rw[Array.getElem?_eq_getElem hlt]at q
  have:IW t.place (i+1)=t.place[i]+1:=by simp[IW,h2]
  rw[Option.map_some,this]at q
  exact q
 ·rw[Array.getElem?_eq_none (by omega)]
  rw[Array.getElem?_eq_none (by omega),Option.map_none]at q
  exact q
end
end L2
namespace L2
open PySem PyProof.Rows
theorem rC:entryFor table "set.__iter__"=some Builtin.«frozenset.__iter__» :=entryFor_alias (id':="frozenset.__iter__") (by kernel_rfl) rfl (by decide +kernel) (by kernel_rfl)
theorem rD:entryFor table "set_iterator.__iter__"=some Builtin.«dict_keyiterator.__iter__» :=entryFor_alias (id':="dict_keyiterator.__iter__") (by kernel_rfl) rfl (by decide +kernel) (by kernel_rfl)
theorem rE(a:Value):argsOk "set_iterator.__iter__" ⟨[a],[]⟩:=by
 unfold argsOk
 kernel_rfl
structure PU(P:Program)(w:World)(A:Around)(h h1:Heap)(a I:Addr)(ms:List Int):Prop where
 ex:∃ (fp:List Addr) (ord:List Value) (ks:List Int) (St:Nat->Heap->Prop),(∀ b∈fp,b=a\/h.objs.size<=b)/\Walks P w A I fp [I] ord.length (λi v=>ord[i]? =some v) St/\St 0 h1/\IntsAre ord ks/\ks.Perm ms
 new:h.objs.size<=I
section
variable{P:Program}{w:World}{A:Around}{E:Value->Shared->Prop}{s:Shared}
theorem PX:∀ {es:List (Int × Value)},ElemsOf (intKind P w) es->IntsAre (es.map (·.2)) (es.map λe=>iv e.2)
 | [],_=>.nil
 | e::r,h=>by
  obtain⟨t,z⟩:=PR h (List.mem_cons_self ..)
  have:=PX h.tail
  rw[List.map_cons,List.map_cons,z]
  exact .cons _ _ this
theorem W7{it:Addr}{f:Value}{i:Nat}{a:Addr}{n ep:Nat}{Q:Value->Shared->Prop}(hit:s.heap.get? it=some (EY f i a n ep))(q:Q (.ref it) s):wpAny (model P w) A (pyIter (.ref it)) Q E s:=by
 have T:s.TypeIs (.ref it) "set_iterator":=⟨_,hit,rfl⟩
 refine wpAny_pyIter_slot T W5 (wpAny_call_entry W5 T rD ?_ (rE _))
 show wpAny _ _ (ret (.ref it)) _ _ s
 exact wpAny_pure ⟨_,rfl,"set_iterator",_,T,EZ.lookup,q⟩
theorem rF{a I:Addr}{es:Array (Int × Value)}{ep:Nat}{t:SetTable}{o:Obj}{f:Nat->Nat}{ord:List Value}(hh:A.handled=none)(hne:a≠I)(hd:o.data=.set es ep t)(hf:t.fits es.size=true)(hl:ord.length=es.size)
  (nx:∀ (s:Shared),s.heap.get? a=some o->∀ (i:Nat),i<=es.size->∀ (A':Around) (E':Value->Shared->Prop) (Q':Option (Value × Nat)->Shared->Prop),Q' ((ord[i]?).map λv=>(v,f (i+1))) s->wpAny (model P w) A' (setNext a (f i) i ep) Q' E' s) :
  Walks P w A I [I,a] [I] ord.length (λi v=>ord[i]? =some v) (λi h=>h.get? I=some (EY (rawInt (f i)) i a es.size ep)/\h.get? a=some o) where
 sub:=λb hb=>by simp at hb;simp[hb]
 frame:=λ_ _ _ st k=>⟨k I (by simp) _ st.1,k a (by simp) _ st.2⟩
 item:=λi s Q E hi st q=>by
  have e:ord[i]? =some ord[i]:=List.getElem?_eq_getElem hi
  refine qU st.1 st.2 hd hf rfl (λA' E' Q' q'=>nx s st.2 i (by omega) A' E' Q' (by rw[e];exact q')) λh' g b=> ?_
  exact q _ h' s.toks e ⟨g,b.extBut a _ hne st.2⟩ λc u hc z=>b.extBut c u (λy=>hc (by simp[y])) z
 done:=λs Q E st q=>by
  refine qV hh st.1 st.2 hd hf rfl (λA' E' Q' q'=>nx s st.2 ord.length (by omega) A' E' Q' (by rw[List.getElem?_eq_none (Nat.le_refl _)];exact q')) λh' x=> ?_
  exact q h' s.toks λc u hc z=>x c u (λy=>hc (by simp[y])) z
 self:=λ_ _ _ _ st q=>W7 st.1 q
theorem rG{a I tp:Addr}{es:Array (Int × Value)}{ep k:Nat}{t:SetTable}{o ot:Obj}{pl:List Nat}{ord:List Value}(hh:A.handled=none)(hne:a≠I)(hnt:tp≠I)(hd:o.data=.set es ep t)(hf:t.fits es.size=true)
  (hdt:ot.data=.seq (pl.map λ(i:Nat)=>rawInt i).toArray k) (hl:ord.length=pl.length) (hx:∀ (i p:Nat),pl[i]? =some p->∃ e:Int × Value,es[p]? =some e/\ord[i]? =some e.2) :
  Walks P w A I [I,a,tp] [I] ord.length (λi v=>ord[i]? =some v) (λi h=>h.get? I=some (EY (.ref tp) i a es.size ep)/\h.get? a=some o/\h.get? tp=some ot) where
 sub:=λb hb=>by simp at hb;simp[hb]
 frame:=λ_ _ _ st k=>⟨k I (by simp) _ st.1,k a (by simp) _ st.2.1,k tp (by simp) _ st.2.2⟩
 item:=λi s Q E hi st q=>by
  have hi':i<pl.length:=by omega
  have e:=List.getElem?_eq_getElem hi'
  obtain⟨x,e1,e2⟩:=hx i _ e
  refine qW st.1 st.2.1 hd hf rfl st.2.2 hdt (by rw[List.getElem?_toArray,List.getElem?_map,e];rfl) e1 λh' g b=> ?_
  exact q _ h' s.toks e2 ⟨g,b.extBut a _ hne st.2.1,b.extBut tp _ hnt st.2.2⟩ λc u hc z=>b.extBut c u (λy=>hc (by simp[y])) z
 done:=λs Q E st q=>by
  refine qX hh st.1 st.2.1 hd hf rfl st.2.2 hdt (by rw[List.getElem?_toArray,List.getElem?_map,List.getElem?_eq_none (by omega)];rfl) λh' x=> ?_
  exact q h' s.toks λc u hc z=>x c u (λy=>hc (by simp[y])) z
 self:=λ_ _ _ _ st q=>W7 st.1 q
theorem rH{n:Nat}{Q:Nat->Shared->Prop}(hn:n≠0)(q:∀ i d,i<n->Q i { s with drawn:=d }):wpAny (model P w) A (choose .order n) Q E s:=fun Γ p hΓ =>by
 show Sem.wp _ _ (.choose .order n .pure) _ _ _ _
 rw[Sem.wp_choose]
 refine⟨hn,?_⟩
 show Sem.wp _ _ (.pure _) _ _ _ _
 rw[Sem.wp]
 exact q _ _ (Nat.mod_lt _ (Nat.pos_of_ne_zero hn))
theorem W8{α :Type}:∀ (n:Nat) (xs:List α) (s:Shared) (Q:List α ->Shared->Prop),xs.length=n->(∀ ys d,List.Perm ys xs->Q ys { s with drawn:=d })->wpAny (model P w) A (drawOrder n xs) Q E s
 | 0,xs,s,Q,hn,q=>by
  have:xs=[]:=List.length_eq_zero_iff.mp hn
  subst this
  unfold drawOrder
  exact wpAny_pure (q [] s.drawn .nil)
 | n+1,[],s,Q,hn,q=>by cases hn
 | n+1,x::r,s,Q,hn,q=>by
  unfold drawOrder
  refine wpAny_bind (rH (by simp) λi d hi=> ?_)
  rw[List.getElem?_eq_getElem hi]
  dsimp only
  refine wpAny_bind (W8 n _ _ _ (by rw[List.length_eraseIdx_of_lt hi,hn];rfl) λys d' p=> ?_)
  refine wpAny_pure (q _ d' ?_)
  refine(List.Perm.cons _ p).trans ?_
  rw[List.eraseIdx_eq_take_drop_succ]
  refine List.perm_middle.symm.trans ?_
  rw[<-List.drop_eq_getElem_cons hi,List.take_append_drop]
theorem rJ {a:Addr} {ms:List Int} {Q:Value->Shared->Prop} (hh:A.handled=none) (S:IntSet P w s.heap a ms)
    (q:∀ I h1 d1,(∀ b o,s.heap.get? b=some o->h1.get? b=some o)->PU P w A s.heap h1 a I ms->Q (.ref I) { s with heap:=h1,drawn:=d1 }):wpAny (model P w) A (pyIter (.ref a)) Q E s:=by
  obtain⟨o,es,ep,t,ho,hex,hd,hel,hp,hb,hf,L⟩:=S
  have T:s.TypeIs (.ref a) "set":=⟨o,ho,hex.1⟩
  have hlt:a<s.heap.objs.size:=Heap.lt_size ho
  refine wpAny_pyIter_slot T PySem.F.slot_set_iter (wpAny_call_entry PySem.F.slot_set_iter T rC ?_ (PySem.F.args_set_iter_1 _))
  unfold Builtin.«frozenset.__iter__»
  show wpAny _ _ ((pure a:Sem Addr) >>= _) _ _ s
  refine wpAny_bind (wpAny_pure ?_)
  refine wpAny_bind ?_
  unfold Builtin.Frozenset.sizeOf
  refine wpAny_bind (wpAny_setEntries_of ho hd hf (wpAny_pure ?_))
  refine wpAny_bind ?_
  unfold setDrawn
  refine wpAny_bind (wpAny_setState_of ho hd hf ?_)
  dsimp only
  refine wpAny_bind ?_
  unfold setsByText
  refine wpAny_bind (wpAny_askSetting (wpAny_pure (wpAny_pure ?_)))
  show wpAny _ _ (if(!w.params.followText "set-order" && (!t.plain && decide (es.size > 1)))=true then _ else _) _ _ s
  have plain:∀ (f:Nat->Nat) (ord:List Value),f 0=0->ord.length=es.size->(∃ ks,IntsAre ord ks/\ks.Perm ms) →
      (∀ (s:Shared),s.heap.get? a=some o->∀ (i:Nat),i<=es.size->∀ (A':Around) (E':Value->Shared->Prop) (Q':Option (Value × Nat)->Shared->Prop),Q' ((ord[i]?).map λv=>(v,f (i+1))) s->wpAny (model P w) A' (setNext a (f i) i ep) Q' E' s) →
      PU P w A s.heap (s.heap.push (EY (rawInt 0) 0 a es.size ep)) a s.heap.objs.size ms:=λf ord f0 hl ⟨ks,hi,pk⟩ nx =>
    ⟨⟨_,ord,ks,_,λb hb=>by
        simp only[List.mem_cons,List.not_mem_nil,or_false]at hb
        rcases hb with rfl | rfl
        ·exact .inr (Nat.le_refl _)
        ·exact .inl rfl,rF hh (Nat.ne_of_lt hlt) hd hf hl nx,⟨by rw[f0];exact Heap.get?_push_size _ rfl,Heap.get?_push_of_some _ ho⟩,hi,pk⟩,Nat.le_refl _⟩
  have fin:∀ (W:PU P w A s.heap (s.heap.push (EY (rawInt 0) 0 a es.size ep)) a s.heap.objs.size ms),
      wpAny (model P w) A.in1 (do
        let first ← (pure (rawInt 0):Sem Value)
        ret (← newFields "set_iterator" [first,rawInt 0,.ref a,rawInt es.size,rawInt (← setEpoch a)])) (λfin s'=>∃ v,fin=.done (.ret v)/\∃ T' r,s'.TypeIs v T'/\typeLookup (.type T') "__next__"=pure (some r)/\Q v s') E s:=λW=>by
    refine wpAny_bind (wpAny_pure ?_)
    refine wpAny_bind (wpAny_setEpoch_of ho hd hf ?_)
    refine wpAny_bind (wpAny_newObj_type (wpAny_pure ⟨_,rfl,"set_iterator",_,⟨_,Heap.get?_push_size _ rfl,rfl⟩,EZ.lookup,?_⟩))
    exact q _ _ s.drawn (λb u e=>Heap.get?_push_of_some _ e) W
  cases ft:w.params.followText "set-order" with
  | true =>
    rw[if_neg (by simp)]
    have pk:=qQ (w.params.setOrder a ep) es
    have hl:(pickOrder (w.params.setOrder a ep) es).size=es.size:=by rw[<-Array.length_toList,pk.length_eq,Array.length_toList]
    refine fin (plain (λ_=>0) ((pickOrder (w.params.setOrder a ep) es).toList.map (·.2)) rfl (by rw[List.length_map,Array.length_toList,hl]) ⟨_,PX (hel.perm pk),(pk.map _).trans hp⟩ λs1 h1 i hi A' E' Q' q'=> ?_)
    refine qY ft h1 hd hf ?_
    rw[List.getElem?_map,Array.getElem?_toList,Option.map_map]at q'
    exact q'
  | false =>
    cases pl:(!t.plain && decide (es.size > 1))with
    | false =>
      rw[if_neg (by simp)]
      refine fin (plain (IW t.place) (es.toList.map (·.2)) rfl (by rw[List.length_map,Array.length_toList]) ⟨_,PX hel,hp⟩ λs1 h1 i hi A' E' Q' q'=> ?_)
      refine qZ ft h1 hd hf L pl hi ?_
      rw[List.getElem?_map,Array.getElem?_toList,Option.map_map]at q'
      exact q'
    | true =>
      rw[if_pos (by simp)]
      refine wpAny_bind (W8 es.size (List.range es.size) s _ (List.length_range) λys d p=> ?_)
      have hy:ys.length=es.size:=by rw[p.length_eq,List.length_range]
      have hys:∀ x∈ys,x<es.size:=λx hx=>List.mem_range.mp (p.mem_iff.mp hx)
      refine wpAny_bind (wpAny_newTuple ?_ (by rw[List.length_map,hy];exact fits_of_scanBound hb))
      refine wpAny_bind (wpAny_setEpoch_of (o:=o) (Heap.get?_push_of_some _ ho) hd hf ?_)
      refine wpAny_bind (wpAny_newObj_type (wpAny_pure ⟨_,rfl,"set_iterator",_,⟨_,Heap.get?_push_size _ rfl,rfl⟩,EZ.lookup,?_⟩))
      refine q _ _ d (λb u e=>Heap.get?_push_of_some _ (Heap.get?_push_of_some _ e)) ⟨⟨_,ys.map λp=>(es[p]?.map (·.2)).getD .none,ys.map λp=>(es[p]?.map λe=>iv e.2).getD 0,_,λb hb=> ?_,
        rG hh ?_ ?_ hd hf rfl (by rw[List.length_map]) λi p e=> ?_,⟨Heap.get?_push_size _ rfl,Heap.get?_push_of_some _ (Heap.get?_push_of_some _ ho),Heap.get?_push_of_some _ (Heap.get?_push_size _ rfl)⟩,?_,?_⟩,?_⟩
      · simp only[List.mem_cons,List.not_mem_nil,or_false]at hb
        rcases hb with rfl | rfl | rfl
        ·right;rw[size_push'];exact Nat.le_succ _
        ·exact .inl rfl
        ·exact .inr (Nat.le_refl _)
      ·rw[size_push'];exact Nat.ne_of_lt (Nat.lt_succ_of_lt hlt)
      ·rw[size_push'];exact Nat.ne_of_lt (Nat.lt_succ_self _)
      · have hp':p<es.size:=hys p (List.mem_of_getElem? e)
        exact⟨es[p],Array.getElem?_eq_getElem hp',by rw[List.getElem?_map,e];simp[hp']⟩
      · have all:∀ (l:List Nat),(∀ x∈l,x<es.size)->IntsAre (l.map λp=>(es[p]?.map (·.2)).getD .none) (l.map λp=>(es[p]?.map λe=>iv e.2).getD 0):=by
          intro l
          induction l with
          | nil=>exact λ_=>.nil
          | cons x r ih =>
            intro hl
            have hx:=hl x (List.mem_cons_self ..)
            obtain⟨tk,z⟩:=PR hel (e:=es[x]) (by simp)
            have e1:(es[x]?.map (·.2)).getD Value.none=Value.int (iv es[x].2) tk:=by rw[Array.getElem?_eq_getElem hx];exact z
            have e2:(es[x]?.map λe=>iv e.2).getD 0=iv es[x].2:=by rw[Array.getElem?_eq_getElem hx];rfl
            rw[List.map_cons,List.map_cons,e1,e2]
            exact .cons _ _ (ih λy hy=>hl y (List.mem_cons_of_mem _ hy))
        exact all ys hys
      · refine(p.map _).trans (List.Perm.trans (List.Perm.of_eq ?_) hp)
        refine List.ext_getElem (by simp) λi h1 h2=> ?_
        have hi:i<es.size:=by simpa using h1
        simp[hi]
      ·rw[size_push'];exact Nat.le_succ _
theorem rK{a:Addr}{Q:Bool->Shared->Prop}(T:s.TypeIs (.ref a) "set")(q:Q false s):wpAny (model P w) A (Builtin.List.listLengthHint (.ref a)) Q E s:=by
 unfold Builtin.List.listLengthHint
 refine wpAny_bind (wpAny_specialOf T PySem.F.slot_set_len.lookup ?_)
 generalize hid:("set.__len__":String)=id0
 wp_delta
 rw[show splitId id0=some ("set","__len__")from by subst hid;decide +kernel]
 subst hid
 refine wpAny_bind (wpAny_isInstance (T:="set") (b:=true) T (by rw[isSubtype_type];kernel_rfl) ?_)
 refine wpAny_ite_split (λz=>absurd z (by decide)) (λ_=> ?_)
 refine wpAny_ite_split (λ_=> ?_) (λz=>absurd (by decide +kernel) z)
 exact wpAny_bind (wpAny_typeOf T (wpAny_pure q))
theorem rM{a:Addr}{ms:List Int}{R:List Value->Shared->Prop}(hh:A.handled=none)(S:IntSet P w s.heap a ms)(hn:ms.length<=sizeLine)
  (q:∀ h' tk d vs ks,(∀ b o,s.heap.get? b=some o->h'.get? b=some o)->s.heap.objs.size<=h'.objs.size->IntsAre vs ks->ks.Perm ms->R vs { s with heap:=h',toks:=tk,drawn:=d }):wpAny (model P w) A (collect (.ref a)) R E s:=by
 have hlt:a<s.heap.objs.size:=let ⟨_,_,_,_,ho,_⟩:=S;Heap.lt_size ho
 unfold collect
 refine wpAny_bind (wpAny_runValue (codeAny_builtin entry_proto_collect' ?_))
 rw[Around.under_plainId PySem.F.plain_proto_collect _]
 show wpAny _ A.in1 (newList [] >>= λl=>again (.builtin "list.__iadd__" ⟨[l,.ref a],[]⟩)) _ _ s
 refine wpAny_bind (wpAny_newObj_type ?_)
 refine wpAny_pure ⟨plainId_quiet PySem.F.plain_list_iadd _,codeAny_builtin entry_list_iadd' ?_⟩
 rw[Around.under_plainId PySem.F.plain_list_iadd _]
 show wpAny _ A.in1 (Builtin.List.listExtendWith (.ref s.heap.objs.size) (.ref a) (.ref s.heap.objs.size)) _ _ _
 generalize eN:s.heap.objs.size=N at hlt ⊢
 have gN:(s.heap.push { cls:=.type "list",data:=.seq ([]:List Value).toArray }).get? N=some { cls:=.type "list",data:=.seq #[] }:=eN ▸ Heap.get?_push_size _ rfl
 have keep1:∀ b o,s.heap.get? b=some o->(s.heap.push { cls:=.type "list",data:=.seq ([]:List Value).toArray }).get? b=some o:=λb o e=>Heap.get?_push_of_some _ e
 have S1:=S.at λo e=>keep1 a o e
 have big:(s.heap.push { cls:=.type "list",data:=.seq ([]:List Value).toArray }).objs.size=N+1:=by rw[size_push',eN]
 revert gN keep1 S1 big
 generalize s.heap.push { cls:=.type "list",data:=.seq ([]:List Value).toArray }=h0
 intro gN keep1 S1 big
 have T1:∀ h':Heap,(∀ b o,h0.get? b=some o->h'.get? b=some o)->∀ tk d,({ s with heap:=h',toks:=tk,drawn:=d }:Shared).TypeIs (.ref a) "set":=λh' k tk d=>by
  obtain⟨o,_,_,_,ho,hex,_⟩:=S1
  exact⟨o,k _ _ ho,hex.1⟩
 unfold Builtin.List.listExtendWith
 refine wpAny_bind (wpAny_typeOf (T:="set") (T1 h0 (λ_ _ e=>e) s.toks s.drawn) ?_)
 have ne:Builtin.List.listSameRef (.ref N) (.ref a)=false:=by
  simp only[Builtin.List.listSameRef,beq_eq_false_iff_ne]
  exact Nat.ne_of_gt hlt
 have n1:(Value.type "set" == Value.type "list")=false:=by decide
 have n2:(Value.type "set" == Value.type "tuple")=false:=by decide
 simp only[ne,n1,n2,Bool.or_false,Bool.false_eq_true,if_false]
 refine wpAny_bind (rJ (A:=A.in1) (s:={ s with heap:=h0 }) (by simpa using hh) S1 λI h1 d1 k1 W=> ?_)
 obtain⟨⟨fp,ord,ks,St,hfp,W,st,hi,pk⟩,hI⟩:=W
 have hI:N+1<=I:=big ▸ hI
 have hlen:ord.length=ms.length:=by rw[IntsAre.length hi,pk.length_eq]
 refine wpAny_bind (wpAny_holding (rK (T1 h1 k1 s.toks d1) ?_))
 rw[if_pos (by decide)]
 refine wpAny_bind (wpAny_rule ?_)
 refine wpAny_bind ?_
 show wpAny _ _ (updateSeq N (·.push .none) >>= λ_=>updateSeq N (·.pop)) _ _ _
 have g1:=k1 _ _ gN
 refine wpAny_bind (wpAny_updateSeq (s:={ s with heap:=h1,drawn:=d1 }) g1 rfl ?_)
 have g2:=Heap.get?_update_self (Obj.mapSeq (·.push Value.none)) g1 rfl
 refine wpAny_updateSeq (hz:=by seq_fits) g2 rfl ?_
 have g3:=Heap.get?_update_self (Obj.mapSeq (·.pop)) g2 rfl
 have oth:∀ b o,b≠N->h1.get? b=some o->((h1.update N (Obj.mapSeq (·.push Value.none))).update N (Obj.mapSeq (·.pop))).get? b=some o:=λb o hb e =>
  (Heap.get?_update_other _ _ (Ne.symm hb)).trans ((Heap.get?_update_other _ _ (Ne.symm hb)).trans e)
 have Nfp:N∉fp:=λz=>by
  rcases hfp N z with y | y
  ·exact Nat.ne_of_gt hlt y
  ·have y':h0.objs.size<=N:=y
   rw[big]at y'
   exact absurd y' (Nat.not_succ_le_self _)
 refine wpAny_pure ⟨plainId_quiet PySem.F.plain_extend_loop _,?_⟩
 refine codeAny_extend_loopS W.toS (by rw[hlen];exact hn) N Nfp (.ref N) ord.length 0 _ #[] _ rfl (Nat.zero_le _) (W.frame 0 _ _ st λb hb o e=>oth b o (λz=>Nfp (z ▸ hb)) e) g3 (ItemsOf.nil _) λs' acc c m g4 hacc=> ?_
 show wpAny _ A (load N >>= _) _ _ _
 refine wpAny_bind (wpAny_load g4 ?_)
 refine wpAny_pure ?_
 have eacc:acc.toList=ord:=by
  refine List.ext_getElem? λi=> ?_
  by_cases hlt':i<ord.length
  ·have h3:i<acc.size:=by rw[hacc.1];exact hlt'
   have:=hacc.2 i acc[i] (Array.getElem?_eq_getElem h3)
   rw[Array.getElem?_toList,Array.getElem?_eq_getElem h3,this]
  ·have e1:acc.toList[i]? =none:=List.getElem?_eq_none (by rw[Array.length_toList,hacc.1];omega)
   have e2:ord[i]? =none:=List.getElem?_eq_none (by omega)
   rw[e1,e2]
 show R acc.toList s'
 rw[eacc]
 obtain⟨h3,gn3,dr3,tk3,os3⟩:=s'
 have a1:gn3=s.gens:=m.gens
 have a2:dr3=d1:=m.drawn
 have a3:os3=s.os:=m.os
 subst a1;subst a2;subst a3
 refine q _ _ dr3 ord ks (λb o e=> ?_) (by rw[eN];exact Nat.le_of_lt (Heap.lt_size g4)) hi pk
 have hb:b<N:=eN ▸ Heap.lt_size e
 refine m.heap b o (λz=> ?_) (oth b o (Nat.ne_of_lt hb) (k1 _ _ (keep1 _ _ e)))
 simp only[List.mem_cons,List.not_mem_nil,or_false]at z
 rcases z with z | z
 ·exact Nat.ne_of_lt hb z
 ·exact Nat.ne_of_lt (Nat.lt_of_lt_of_le (Nat.lt_succ_of_lt hb) hI) z
theorem rN{a:Addr}{ms:List Int}{Q:Value->Shared->Prop}(hh:A.handled=none)(S:IntSet P w s.heap a ms)(hn:ms.length<64)
  (q:∀ D h' tk d c out ks,(∀ b o,s.heap.get? b=some o->h'.get? b=some o)->s.heap.objs.size<=D->h'.get? D=some (seqObj "list" out c)->IntsAre out.toList ks->ks.Perm ms->ks.Pairwise (· <=·)->Q (.ref D) { s with heap:=h',toks:=tk,drawn:=d }) :
  wpAny (model P w) A (call (.builtin "sorted") [.ref a]) Q E s:=by
 refine Calls.call_function_entry kind_sorted plain_sorted entry_sorted (args_sorted1 _) ?_
 unfold Builtin.«sorted»
 refine wpAny_bind (m:=checkCount "sorted" 1 1 _) (wpAny_pure ?_)
 refine wpAny_bind (rM (A:=A.in1) (by simpa using hh) S (by rw[sizeLine_eq];omega) λh1 tk d vs ks k1 size_le hi pk=> ?_)
 have hl:vs.length<64:=by rw[IntsAre.length hi,pk.length_eq];exact hn
 refine wpAny_bind (wpAny_newList ?_ (by rw[sizeLine_eq];omega))
 have g:(h1.push (seqObj "list" vs.toArray 0)).get? h1.objs.size=some (seqObj "list" vs.toArray 0):=Heap.get?_push_size _ rfl
 show wpAny _ _ _ _ _ { s with heap:=h1.push (seqObj "list" vs.toArray 0),toks:=tk,drawn:=d }
 refine wpAny_bind (wpAny_holding (wpAny_call_entry slot_list_sort ⟨_,g,rfl⟩ entry_list_sort (list_sort_tree g hi hl λout ks' i1 p1 r1=>⟨_,rfl,?_⟩) (args_list_sort _)))
 obtain⟨c,gc⟩:=sortedHeap_at (n:=0) (out:=out) g
 refine wpAny_pure ⟨_,rfl,q _ _ tk d c out ks' (λb o e=> ?_) size_le gc i1 (p1.trans pk) r1⟩
 have hb:=Heap.lt_size (k1 _ _ e)
 rw[sortedHeap_old (Nat.ne_of_lt hb) (by rw[size_push'];exact Nat.lt_succ_of_lt hb)]
 exact Heap.get?_push_of_some _ (k1 _ _ e)
end
end L2
namespace L2
open PySem PyProof.Rows
section
variable{P:Program}{w:World}{A:Around}{E:Value->Shared->Prop}{s:Shared}
theorem rO {l:Addr} {its:Array Value} {ns:List Int} {Q:Value->Shared->Prop} (hh:A.handled=none) (hl:s.heap.IsList l its) (hi:IntsAre its.toList ns) (hb:its.size+1<scanBound)
    (q:∀ h' tk,IntSet P w h' s.heap.objs.size (firstMet (λi=>ns.getD i 0) its.size)->(∀ b o,s.heap.get? b=some o->h'.get? b=some o)->Q (.ref s.heap.objs.size) { s with heap:=h',toks:=tk }) :
    wpAny (model P w) A (call (.type "set") [.ref l]) Q E s:=by
  obtain⟨c,tl,mro⟩:=PySem.F.called_set.mro
  have made:=PySem.F.called_set.made
  have sub:=PySem.F.called_set.sub
  refine wpAny_call (codeAny_of_tree ?_)
  show wpAny _ _ (callAny (.type "set") _) _ _ _
  refine wpAny_pure ⟨Code.quiet_builtin _ (by decide +kernel),codeAny_builtin PySem.F.entry_type_call ?_⟩
  rw[Around.under_plain (weight_type_call_type "set" [.ref l] []) rfl]
  have n1:=PySem.F.called_set.notType
  have n2:=PySem.F.called_set.canCreate
  have n3:=PySem.F.typeCall_set_1 (.ref l)
  repeat (any_goals (first | assumption | wp_step))
  generalize eS:({ cls:=.type "set",dict:=none,data:=.set #[] 0 (.fresh 0 0 (HJ w)) }:Obj)=oS
  refine codeAny_mono (qT (E:=E) (Q:=λx s1=>x=.ref s.heap.objs.size/\s1={ s with heap:=s.heap.push oS }) ⟨rfl,by rw[<-eS]⟩) λr s1 hr=> ?_
  cases r with
  | error e=>exact hr
  | ok fl =>
    cases fl with
    | ret x =>
      obtain⟨rfl,rfl⟩:=hr
      have g0:(s.heap.push oS).get? s.heap.objs.size=some oS:=Heap.get?_push_size _ (by rw[<-eS];rfl)
      have T0:Shared.TypeIs { s with heap:=s.heap.push oS } (.ref s.heap.objs.size) "set":=⟨_,g0,by rw[<-eS]⟩
      have i1:=PySem.F.called_set.init.lookup
      have i2:=PySem.F.called_set.init.bind (.ref s.heap.objs.size)
      repeat (any_goals (first | assumption | wp_step))
      refine codeAny_mono (codeAny_call_builtin (R:=wants (λr s2=>r=.none/\∃ h' tk,s2={ s with heap:=h',toks:=tk }/\IntSet P w h' s.heap.objs.size (firstMet (λi=>ns.getD i 0) its.size) ∧
        (∀ b o,s.heap.get? b=some o->h'.get? b=some o)) E) PySem.F.called_set.init.plain PySem.F.entry_set_init (check_set_init_1 T0 ?_)) λr2 s2 hr2=> ?_
      · obtain⟨ol,gl,cl,nl,dl⟩:=hl
        obtain⟨c1,d1,dt1,sl1⟩:=ol
        simp only at cl dl
        subst cl;subst dl
        have gl':=Heap.get?_push_of_some oS gl
        have e1:=PySem.F.sub_list_set
        have e2:=PySem.F.sub_list_frozenset
        have e3:(Value.type "list" == Value.type "dict")=false:=by decide
        have hl1:(s.heap.push oS).IsList l its:=⟨_,gl',rfl,nl,rfl⟩
        have hlt:l<s.heap.objs.size:=Heap.lt_size gl
        have big:=size_push' s.heap oS
        revert gl' hl1 g0 T0 big
        have keep0:∀ b o,s.heap.get? b=some o->(s.heap.push oS).get? b=some o:=λb o e=>Heap.get?_push_of_some _ e
        revert keep0
        generalize s.heap.push oS=h0
        intro keep0 g0 T0 gl' hl1 big
        subst eS
        unfold Builtin.«set.__init__» noKeywords Builtin.Frozenset.updateFrom
        generalize hPI:pyIter=PI
        wp_walk
        subst hPI
        refine wpAny_pyIter_list hl1 ?_
        refine wpAny_bind (wpAny_runValue ?_)
        have hh3:A.in1.in1.in1.handled=none:=by simp[hh]
        have ne1:l≠h0.objs.size:=Nat.ne_of_lt (by rw[big];exact Nat.lt_succ_of_lt hlt)
        have nin:s.heap.objs.size∉[h0.objs.size,l]:=by
          simp only[List.mem_cons,List.not_mem_nil,or_false,not_or]
          exact⟨Nat.ne_of_lt (by rw[big];exact Nat.lt_succ_self _),Nat.ne_of_gt hlt⟩
        refine qS ((Walks.list hh3 _ l ne1 its).toS) s.heap.objs.size nin (λi=>ns.getD i 0) (λi v e=>IntsAre.int_at hi i v (by rw[Array.getElem?_toList];exact e)) hb (its.size - 0) 0 _ (by omega) (Nat.zero_le _)
          ⟨⟨_,Heap.get?_push_size _ rfl,rfl,rfl⟩,hl1.push _⟩ ⟨_,#[],0,_,Heap.get?_push_of_some _ g0,⟨rfl,rfl,rfl⟩,rfl,λe he=>by simp at he,by exact .nil,by decide,by rfl,Led.fresh _⟩ λs3 m S3=> ?_
        obtain⟨h3,g3,d3,tk3,os3⟩:=s3
        have a1:g3=s.gens:=m.gens
        have a2:d3=s.drawn:=m.drawn
        have a3:os3=s.os:=m.os
        subst a1;subst a2;subst a3
        show wpAny _ _ _ _ _ _
        refine wpAny_pure ?_
        show wpAny _ _ (ret Value.none) _ _ _
        refine wpAny_pure ⟨rfl,h3,tk3,rfl,S3,λb o e=> ?_⟩
        have hb:=Heap.lt_size e
        refine m.heap b o ?_ (Heap.get?_push_of_some _ (keep0 _ _ e))
        simp only[List.mem_cons,List.not_mem_nil,or_false,not_or]
        exact⟨Nat.ne_of_lt hb,Nat.ne_of_lt (by rw[big];exact Nat.lt_succ_of_lt hb)⟩
      · cases r2 with
        | error e=>exact hr2
        | ok fl2 =>
          cases fl2 with
          | ret r =>
            obtain⟨rfl,h',tk,rfl,S',k'⟩:=hr2
            repeat (any_goals (first | assumption | wp_step))
            exact q _ _ S' k'
          | _=>exact hr2.elim
    | _=>exact hr.elim
end
end L2
namespace L2
section
variable{X:Cx}
theorem Inv.drawn{pins:List (Addr × Obj)}{σ:St}{H:Hp}{s:Shared}(I:Inv X pins σ H s)(d):Inv X pins σ H { s with drawn:=d } :=
 { ok:=I.ok,os:=I.os,bare:=I.bare,base:=I.base,loc:=I.loc,cell:=I.cell,free:=I.free,freeC:=I.freeC,pin:=I.pin,hok:=I.hok,len:=I.len }
theorem W9:∀ {ns:List Int} {us:List Value},Vals (ns.map V.int) us->IntsAre us ns
 | [],_,.nil=>.nil
 | n::r,_,.cons h t=>by
  obtain⟨tk,rfl⟩:=h
  exact .cons _ _ (W9 t)
abbrev XA(X:Cx)(a:Addr)(ms:List Int):HO:=.ext λh=>IntSet X.prog X.w h a ms
theorem rP(hc:X.calm=true):CallR X (.type "set") (λxs H Q=>∃ (p:Addr) (ns:List Int),xs=[.ref p]/\SqL X.K H p (ns.map V.int)/\ns.length<=1000 ∧
  ∀ (a:Addr),H a=none->Q (.ref a) (upd H a (XA X a (firstMet (λi=>ns.getD i 0) ns.length)))):=by
 intro pins s σ H xs us Q I r h
 obtain⟨p,ns,rfl,hq,hn,q⟩:=h
 obtain⟨u,rfl,rx⟩:=FO r
 cases rx
 obtain⟨its,r',pl,hz⟩:=I.list hq
 have hi:=W9 r'
 have hlen:its.length=ns.length:=IntsAre.length hi
 refine rO (I.ok.hd hc) pl.isList hi (by rw[List.size_toArray,hlen];exact Nat.lt_of_le_of_lt (Nat.succ_le_succ hn) (by decide)) λh' tk S k=> ?_
 have hz2:its.toArray.size=ns.length:=by rw[List.size_toArray,hlen]
 rw[hz2]at S
 refine⟨.ref s.heap.objs.size,_,I.laid k (Nat.le_refl _) ?_,rfl,q _ (I.hok.fresh (Nat.le_refl _))⟩
 exact⟨S,⟨_,S.choose_spec.choose_spec.choose_spec.choose_spec.1⟩,λh1 h2 z e=>z.at e⟩
theorem rQ(hc:X.calm=true):CallR X (.builtin "sorted") (λxs H Q=>∃ (a:Addr) (ms:List Int),xs=[.ref a]/\H a=some (XA X a ms)/\ms.length<64 ∧
  ∀ (D:Addr) (ks:List Int),H D=none->List.Perm ks ms->ks.Pairwise (· <=·)->Q (.ref D) (upd H D (.lst (ks.map V.int)))):=by
 intro pins s σ H xs us Q I r h
 obtain⟨a,ms,rfl,ha,hn,q⟩:=h
 obtain⟨u,rfl,rx⟩:=FO r
 cases rx
 obtain⟨S,_,_⟩:=I.hok a _ ha
 refine rN (I.ok.hd hc) S hn λD h' tk d c out ks k hD g hi pk hr=> ?_
 have hl:ks.length<64:=by rw[pk.length_eq];exact hn
 refine⟨.ref D,_,(I.laid (t':=tk) k hD ?_).drawn d,rfl,q D ks (I.hok.fresh hD) pk hr⟩
 exact⟨by rw[List.length_map,sizeLine_eq];omega,out.toList,c,O4 hi,g⟩
theorem rR(val:Nat->Int)(n:Nat)(x:Int):x∈firstMet val n↔∃ i,i<n/\val i=x:=by
 have h:=firstMet_any val n x
 rw[Bool.eq_iff_iff,List.any_eq_true,List.any_eq_true]at h
 constructor
 ·intro hx
  obtain⟨y,hy,e⟩:=h.mp ⟨x,hx,beq_self_eq_true x⟩
  obtain⟨i,hi,rfl⟩:=List.mem_map.mp hy
  exact⟨i,List.mem_range.mp hi,eq_of_beq e⟩
 ·rintro ⟨i,hi,rfl⟩
  obtain⟨y,hy,e⟩:=h.mpr ⟨val i,List.mem_map.mpr ⟨i,List.mem_range.mpr hi,rfl⟩,beq_self_eq_true _⟩
  exact eq_of_beq e ▸ hy
theorem PY(val:Nat->Int):∀ n,(firstMet val n).Nodup
 | 0=>by rw[firstMet_zero];exact List.nodup_nil
 | n+1=>by
  rw[firstMet_succ]
  by_cases h:val n∈firstMet val n
  ·rw[W3 h];exact PY val n
  ·rw[W4 h]
   exact List.nodup_append.mpr ⟨PY val n,by simp,λa ha b hb e=>by rw[List.mem_singleton]at hb;subst hb;subst e;exact h ha⟩
theorem XB:∀ {l:List Int},l.Pairwise (· <=·)->l.Nodup->l.Pairwise (· <·)
 | [],_,_=>.nil
 | x::r,h,n=>by
  obtain⟨h1,h2⟩:=List.pairwise_cons.mp h
  obtain⟨n1,n2⟩:=List.nodup_cons.mp n
  refine List.pairwise_cons.mpr ⟨λy hy=> ?_,XB h2 n2⟩
  have:=h1 y hy
  have:x≠y:=λz=>n1 (z ▸ hy)
  omega
def NM(K:W.Frag)(te:TE):TE:=λσ H Q=>te σ H λx H1=>∃ (p:Addr) (ns:List Int),x=.ref p/\SqL K H1 p (ns.map V.int)/\ns.length<64 ∧
 ∀ (a:Addr) (o:HO) (D:Addr) (ks:List Int),H1 a=none->upd H1 a o D=none->ks.Pairwise (· <·)->(∀ x,x∈ks↔x∈ns)->ks.length<=ns.length->Q (.ref D) (upd (upd H1 a o) D (.lst (ks.map V.int)))
def clo(te:TE):TE:=λσ H Q=>∃ C:VK,te σ H C/\∀ x H1,C x H1->Q x H1
theorem PE.clo{e:Expr}{te:TE}(h:PE X e te):PE X e (clo te):=λpins s σ H Q I ⟨C,q,m⟩=>AM (h pins s σ H C I q) λv s' ⟨x,H1,I1,r1,q1⟩=>⟨x,H1,I1,r1,m _ _ q1⟩
theorem XC{e:Expr}{te:TE}{p1 p2 p3 p4:Pos}(hc:X.calm=true)(g1:Gl X "sorted")(m1:X.mg "sorted"=none)(g2:Gl X "set")(m2:X.mg "set"=none)(h:PE X e te)
  (he:starEach [e] X.env=[(false,eval e X.env)]:=by rfl) :
  PE X (.Call (.Name "sorted" p1) [.Call (.Name "set" p2) [e] [] p3] [] p4) (NM X.K te):=λpins s σ H Q I q=>by
 refine(CI (rQ hc) g1 m1 (by rfl) (AD (ER (rP hc) g2 m2 (by rfl) (AD h.clo AG he) (he:=he)) AG)) pins s σ H Q I ?_
 refine⟨_,q,λx H1 ⟨p,ns,e1,hq,hn,q1⟩=> ?_⟩
 subst e1
 refine⟨p,ns,rfl,hq,by omega,λa ha=>⟨a,_,rfl,AK,?_,λD ks hD pk hr=> ?_⟩⟩
 ·exact Nat.lt_of_le_of_lt (firstMet_length_le ..) hn
 ·have nd:=PY (λi=>ns.getD i 0) ns.length
  refine q1 a _ D ks ha hD (XB hr (pk.nodup_iff.mpr nd)) (λx=> ?_) (by rw[pk.length_eq];exact firstMet_length_le ..)
  rw[pk.mem_iff,rR]
  refine⟨λ⟨i,hi,e⟩=> ?_,λhx=> ?_⟩
  ·rw[<-e]
   simp[List.getD,hi]
  ·obtain⟨i,hi,e⟩:=List.getElem_of_mem hx
   exact⟨i,hi,by simp[List.getD,hi,e]⟩
end
end L2
namespace L2
def XD(K:W.Frag)(a:Addr)(n:Nat):It :=
 ⟨λi H=>i<n/\∃ xs,SqL K H a xs/\xs.length=n,λi H x H'=>H'=H/\∀ xs,SqL K H a xs->xs[n - 1 - i]? =some x,λi _=>n<=i⟩
def rS(K:W.Frag)(ta:TA):TI:=λσ H R=>ta σ H λvs H1=>∃ a xs,vs=[.ref a]/\SqL K H1 a xs/\R (XD K a xs.length) H1
section
variable{X:Cx}{tg:Expr}
def rT(K:W.Frag)(te:TE)(ts:TO):TE:=λσ H Q=>te σ H λx H1=>ts σ H1 λk H2=>k=some (-1)/\∃ a xs,x=.ref a/\SqL K H2 a xs/\∀ p,H2 p=none->Q (.ref p) (upd H2 p (.lst xs.reverse))
theorem rV{K:W.Frag}{te:TE}{ts:TO}{σ:St}{H:Hp}{Q:VK}:rT K te ts σ H Q=(te σ H λx H1=>ts σ H1 λk H2=>k=some (-1)/\∃ a xs,x=.ref a/\SqL K H2 a xs/\∀ p,H2 p=none->Q (.ref p) (upd H2 p (.lst xs.reverse))):=rfl
def rW(ta:TA):TE:=λσ H Q=>ta σ H λvs H1=>∃ k:Nat,vs=[.int k]/\k<=100000/\∀ p,H1 p=none->Q (.ref p) (upd H1 p (.lst (WW k)))
theorem rX{ta:TA}{σ:St}{H:Hp}{Q:VK}:rW ta σ H Q=(ta σ H λvs H1=>∃ k:Nat,vs=[.int k]/\k<=100000/\∀ p,H1 p=none->Q (.ref p) (upd H1 p (.lst (WW k)))):=rfl
def NN(K:W.Frag):List V->Hp->VK->Prop:=λxs H Q=>∃ (p:Addr) (kvs:List (AN × V)),xs=[.ref p]/\H p=some (.dK kvs)/\∀ l,H l=none->Q (.ref l) (upd H l (.dK kvs))
theorem rY:CallR X (.type "dict") (NN X.K):=by
 intro pins s σ H xs us Q I r h
 obtain⟨p,kvs,rfl,hp,q⟩:=h
 obtain⟨u,rfl,rx⟩:=FO r
 cases rx
 exact kC I (.inl hp) λl s' hl I'=>⟨.ref l,_,I',rfl,q l hl⟩
theorem rZ{K:W.Frag}{p:Addr}{H:Hp}{Q:VK}:NN K [.ref p] H Q=∃ kvs,H p=some (.dK kvs)/\∀ l,H l=none->Q (.ref l) (upd H l (.dK kvs)):=by simp[NN]
end
theorem r8{K:W.Frag}{as:TA}{g:TG}{s1:TS}{D:Ends}{σ:St}{H:Hp}:B7 (rS K as) g s1 D σ H=(as σ H λvs H1=>∃ a xs,vs=[.ref a]/\SqL K H1 a xs/\DE (XD K a xs.length) g s1 D σ H1):=rfl
section
variable{K:W.Frag}{tt:TT}{cap:List Nat}{σ:St}{H:Hp}{Q:VK}
theorem sA{n:Nat}(p:Nat->Bool)(hn:n<=sizeLine)(ht:∀ i,i<n->∀ QB:Bool->Hp->Prop,QB (p i) H->tt (some (.int (i:Int))::FZ cap σ) H QB)
  (hd:∀ q,H q=none->Q (.ref q) (upd H q (.lst (((List.range n).filter p).map λ(i:Nat)=>V.int i)))):HG (DL 0 n) (AW 0) tt (AA 0) 1 cap σ H Q:=by
 refine⟨λi m σ' ys H'=>m=n - i/\i<=n/\H'=H/\(∃ x0,σ'=x0::FZ cap σ)/\ys=((List.range i).filter p).map λ(i:Nat)=>V.int i,⟨n,by simp,Nat.zero_le _,rfl,⟨none,rfl⟩,rfl⟩,?_⟩
 rintro i m σ' ys H' ⟨rfl,hi,rfl,⟨x0,rfl⟩,rfl⟩
 by_cases hlt:i<n
 ·refine .inr ⟨hlt,?_,λx H2 y=> ?_⟩
  ·rw[List.length_map]
   have:=List.length_filter_le p (List.range i)
   rw[List.length_range]at this
   omega
  ·obtain⟨e,y⟩:=y
   subst e y
   rw[Int.zero_add]
   simp only[AW,List.set_cons_zero]
   refine ht i hlt _ ?_
   cases hp:p i with
   | true =>
    rw[if_pos rfl]
    refine⟨λv H4=>v=.int i/\H4=H2,λy H4 ⟨e1,e2⟩=>⟨n - (i+1),by omega,rfl,hlt,e2,⟨_,rfl⟩,?_⟩,?_⟩
    ·rw[e1,List.range_succ,List.filter_append,List.map_append]
     simp[hp]
    ·simp[AA]
   | false =>
    rw[if_neg Bool.false_ne_true]
    refine⟨n - (i+1),by omega,rfl,hlt,rfl,⟨_,rfl⟩,?_⟩
    rw[List.range_succ,List.filter_append,List.map_append]
    simp[hp]
 ·have e:i=n:=by omega
  subst e
  exact .inl ⟨Nat.le_refl _,hd⟩
end
section
variable{K:W.Frag}{td ty tv te:TE}{D:Ends}{σ:St}{H:Hp}{Q:VK}{QB:Bool->Hp->Prop}
theorem sB:DT td ty σ H Q=(td σ H λx H1=>ty σ H1 λy H2=>∃ a v,x=.ref a/\DGet H2 a y (some v)/\Q v H2):=rfl
theorem sC:M4 ty td σ H Q=(ty σ H λy H1=>td σ H1 λx H2=>∃ a o,x=.ref a/\DGet H2 a y o/\Q (.bl o.isSome) H2):=rfl
theorem sD:GO ty td σ H Q=(ty σ H λy H1=>td σ H1 λx H2=>∃ a o,x=.ref a/\DGet H2 a y o/\Q (.bl (!o.isSome)) H2):=rfl
theorem sE:HB td ty tv D σ H=(tv σ H λv H1=>td σ H1 λx H2=>ty σ H2 λy H3=>∃ a H4,x=.ref a/\DPut H3 a y v H4/\D.nx σ H4):=rfl
theorem sF:O3 td ty σ H Q=(td σ H λx H1=>∃ a,x=.ref a/\O2 H1 a/\ty σ H1 λy H2=>∃ o,DGet H2 a y o/\Q (o.getD .non) H2):=rfl
theorem sG:GP σ H Q=(∀ p,H p=none->Q (.ref p) (upd H p (.dK []))):=rfl
theorem sI:M5 σ H Q=(∀ p,H p=none->Q (.ref p) (upd H p (.dT []))):=rfl
theorem sJ:tB te σ H QB=(te σ H λx H1=>∃ c,x=.bl c/\QB c H1):=rfl
theorem sK:NM K te σ H Q=(te σ H λx H1=>∃ (p:Addr) (ns:List Int),x=.ref p/\SqL K H1 p (ns.map V.int)/\ns.length<64 ∧
 ∀ (a:Addr) (o:HO) (D:Addr) (ks:List Int),H1 a=none->upd H1 a o D=none->ks.Pairwise (· <·)->(∀ x,x∈ks↔x∈ns)->ks.length<=ns.length->Q (.ref D) (upd (upd H1 a o) D (.lst (ks.map V.int)))):=rfl
variable{a b:Addr}{i j:Int}{z:Str}{kvs:List (AN × V)}{kvt:List (List AN × V)}{v:V}
theorem dI(e:H a=some (.dK kvs)):DGet H a (.int i) (AZ kvs (.inl i)):=DGet.k (k:=.inl i) e
theorem dS(e:H a=some (.dK kvs)):DGet H a (.str z) (AZ kvs (.inr z)):=DGet.k (k:=.inr z) e
theorem sL(e:H a=some (.dT kvt))(eb:H b=some (.tup [.int i,.int j])):DGet H a (.ref b) (AZ kvt [.inl i,.inl j]):=DGet.t (k:=[.inl i,.inl j]) e eb
theorem FG(e:H a=some (.dK kvs))(h:AZ kvs (.inr z)=some v):DGet H a (.str z) (some v):=h ▸ dS e
theorem pI(e:H a=some (.dK kvs))(hl:kvs.length<100000):DPut H a (.int i) v (upd H a (.dK (BT kvs (.inl i) v))):=DPut.k (k:=.inl i) e (Nat.lt_of_lt_of_le hl (by decide))
theorem XF(e:H a=some (.dT kvt))(eb:H b=some (.tup [.int i,.int j]))(hl:kvt.length<100000):DPut H a (.ref b) v (upd H a (.dT (BT kvt [.inl i,.inl j] v))):=DPut.t (k:=[.inl i,.inl j]) e eb (Nat.lt_of_lt_of_le hl (by decide))
end
end L2
namespace L2
section
variable{X:Cx}
abbrev PZ(K:W.Frag):R2:=VQ K true
theorem sM(hu:X.A.units+64<cLine):OpR X (compareOp .NotIn) (PZ X.K):=jO
def NO:R2:=λx y H Q=>∃ c,y=.bl c/\(∀ p,x≠.ref p)/\(∀ T,x≠.ty T)/\Q (.bl (decide (x=.bl c))) H
end
theorem SqT.same{K:W.Frag}{H H':Hp}{a:Addr}{xs:List V}(e:Same H H')(h:SqT K H a xs):SqT K H' a xs:=by
 rcases h with(h | ⟨o,h⟩) | h
 ·exact .inl (.inl (e _ _ h))
 ·exact .inl (.inr ⟨o,e _ _ h⟩)
 ·exact .inr h
mutual
theorem Rep.same{K:W.Frag}{H H':Hp}(s:Same H H'):∀ {v:V} {d:PyData},Rep K H v d->Rep K H' v d
 | _,_,.non=>.non
 | _,_,.bl b=>.bl b
 | _,_,.int i=>.int i
 | _,_,.str x=>.str x
 | _,_,.lst h r=>.lst (s.seq h) (RepAll.same s r)
 | _,_,.tup h r=>.tup (SqT.same s h) (RepAll.same s r)
theorem RepAll.same{K:W.Frag}{H H':Hp}(s:Same H H'):∀ {vs:List V} {ds:List PyData},RepAll K H vs ds->RepAll K H' vs ds
 | _,_,.nil=>.nil
 | _,_,.cons h r=>.cons (Rep.same s h) (RepAll.same s r)
end
def Dat(K:W.Frag)(H:Hp)(n:Nat)(v:V)(d:PyData):Prop:=Rep K H v d/\d.canLay0=true/\d.depth<=n
section
variable{K:W.Frag}{H:Hp}{n:Nat}{Q:VK}
theorem Dat.int(i:Int):Dat K H n (.int i) (.int i):=⟨.int i,rfl,Nat.zero_le _⟩
theorem Dat.non:Dat K H n .non .none:=⟨.non,rfl,Nat.zero_le _⟩
theorem P0:∀ {xs:List V} {ds:List PyData},Paired (Dat K H n) xs ds->RepAll K H xs ds/\PyData.canLayAll0 ds=true/\PyData.depthAll ds<=n
 | _,_,.nil=>⟨.nil,rfl,Nat.zero_le _⟩
 | _,_,.cons h t=>by
  obtain⟨a1,a2,a3⟩:=P0 t
  refine⟨.cons h.1 a1,?_,?_⟩
  ·simp[PyData.canLayAll0,h.2.1,a2]
  ·simp only[PyData.depthAll];exact Nat.max_le.mpr ⟨h.2.2,a3⟩
theorem Dat.lst{p:Addr}{xs:List V}{ds:List PyData}(h:SqL K H p xs)(hs:Paired (Dat K H n) xs ds):Dat K H (n+1) (.ref p) (.list ds):=by
 obtain⟨a1,a2,a3⟩:=P0 hs
 exact⟨.lst h a1,by simpa [PyData.canLay0]using a2,by simpa [PyData.depth]using a3⟩
theorem Dat.tup{p:Addr}{xs:List V}{ds:List PyData}(h:SqT K H p xs)(hs:Paired (Dat K H n) xs ds):Dat K H (n+1) (.ref p) (.tuple ds):=by
 obtain⟨a1,a2,a3⟩:=P0 hs
 exact⟨.tup h a1,by simpa [PyData.canLay0]using a2,by simpa [PyData.depth]using a3⟩
theorem Dat.shp{v:V}{d:PyData}(h:Dat K H n v d)(hn:n<=64):shp d:=by
 unfold L2.shp PySem.SeqAt.shaped
 rw[h.2.1]
 simpa using Nat.le_trans h.2.2 hn
theorem P4:∀ (l:List Int),Paired (Dat K H n) (l.map V.int) (l.map PyData.int)
 | []=>.nil
 | x::r=>.cons (.int x) (P4 r)
theorem sN{p q:Addr}{d:PyData}(hn:n<=64)(h1:Dat K H n (.ref p) d)(h2:Dat K H n (.ref q) d)(hq:Q (.bl false) H):B8 K (.ref p) (.ref q) H Q:=by
 unfold B8
 rw[if_neg (by simp[CZ])]
 refine⟨_,_,h1.1,h2.1,h1.shp hn,h1.shp hn,?_⟩
 rw[pX (h1.shp hn)]
 exact hq
theorem sO{p q:Addr}{xs:List V}{ds:List PyData}(hn:n<=63)(h1:SqL K H p xs)(hd:Paired (Dat K H n) xs ds)(h2:SqL K H q [])(hq:Q (.bl (!decide (xs=[]))) H):B8 K (.ref p) (.ref q) H Q:=by
 unfold B8
 rw[if_neg (by simp[CZ])]
 have e1:=Dat.lst h1 hd
 have e2:Dat K H 1 (.ref q) (.list []):=Dat.lst h2 .nil
 refine⟨_,_,e1.1,e2.1,e1.shp (by omega),e2.shp (by omega),?_⟩
 cases hd with
 | nil=>exact hq
 | cons _ _=>exact hq
theorem sP{p q:Addr}{xs:List V}{ds:List PyData}(hn:n<=63)(h1:SqL K H p xs)(hd:Paired (Dat K H n) xs ds)(h2:SqL K H q [])(hq:Q (.bl (decide (xs=[]))) H):CG K (.ref p) (.ref q) H Q:=by
 unfold CG
 rw[if_neg (by simp[CZ])]
 have e1:=Dat.lst h1 hd
 have e2:Dat K H 1 (.ref q) (.list []):=Dat.lst h2 .nil
 refine⟨_,_,e1.1,e2.1,e1.shp (by omega),e2.shp (by omega),?_⟩
 cases hd with
 | nil=>exact hq
 | cons _ _=>exact hq
end
end L2
namespace L2
theorem sQ{i:Int}{c:Bool}{H:Hp}{Q:VK}:NO (.int i) (.bl c) H Q=Q (.bl false) H:=by simp[NO]
theorem sS{c:Bool}{H:Hp}{Q:VK}:NO .non (.bl c) H Q=Q (.bl false) H:=by simp[NO]
def XG(scope:Scope):Bool :=
 scope.kind == .function && scope.names.all (λy=>y.2 != .cell) && scope.names.all (λy=>y.2 != .local || scope.names.lookup y.1 == some .local) && scope.names.all (λy=>y.2 != .free)
theorem sT{X:Cx}{scope:Scope}{tn:List Str}(h:XG scope=true):IQ X scope tn [] []:=by
 unfold XG at h
 refine IU (outer:=X.env.scope) (N:=X.N) rfl rfl ?_
 unfold PD
 simp only[Bool.and_eq_true]at h ⊢
 obtain⟨⟨⟨k1,k2⟩,k3⟩,k4⟩:=h
 refine⟨⟨⟨⟨⟨k1,k2⟩,k3⟩,?_⟩,rfl⟩,rfl⟩
 rw[List.all_eq_true]at k4 ⊢
 intro y hy
 rw[k4 y hy]
 rfl
end L2
namespace L2
section
variable{prog:Program}{w:World}{A:Around}{E:Value->Shared->Prop}{s:Shared}{d it:Addr}{od:Obj}{es:Array DictEntry}{ep i:Nat}
theorem XH{Q:Value->Shared->Prop}(hd:(d == sysModules)=false)(ho:s.heap.get? d=some od)(hx:od.ExactDict)(hdat:od.data=.dict es ep)
  (hQ:Q (.ref s.heap.objs.size) { s with heap:=s.heap.push { cls:=.type "dict_keyiterator",data:=.fields #[.ref d,.int 0 0,.int es.size 0,.int ep 0] } }) :
  wpAny (model prog w) A (pyIter (.ref d)) Q E s:=by
 have hT:s.TypeIs (.ref d) "dict":=⟨od,ho,hx.1⟩
 refine wpAny_pyIter_slot hT F.slot_dict_iter (wpAny_call_entry F.slot_dict_iter hT F.entry_dict_iter ?_ (F.args_dict_iter_1 _))
 unfold Builtin.«dict.__iter__» Builtin.Dict.dictSlotNone
 refine wpAny_bind (wpAny_bind (wpAny_notOrdered_dict hT (wpAny_pure ?_)))
 show wpAny _ _ (Builtin.Dict.showsAll d >>= _) _ _ s
 unfold Builtin.Dict.showsAll
 rw[if_neg (by rw[hd];exact Bool.false_ne_true)]
 refine wpAny_bind (wpAny_pure (wpAny_bind (wpAny_dictEntries ho hdat (wpAny_bind (wpAny_dictEpoch ho hdat ?_)))))
 refine wpAny_bind (wpAny_newObj_type (wpAny_pure ⟨_,rfl,"dict_keyiterator",_,⟨_,Heap.get?_push_size _ rfl,rfl⟩,F.slot_dict_keyiterator_next.lookup,?_⟩))
 simpa [rawInt]using hQ
theorem sU{Q:Option Value->Shared->Prop}(hit:s.heap.IsKeyIter it d i es.size ep)(hod:s.heap.get? d=some od)(hdd:od.data=.dict es ep){e:DictEntry}(he:es[i]? =some e)
  (hQ:∀ h',h'.IsKeyIter it d (i+1) es.size ep->Heap.SameBut it s.heap h'->Q (some e.key) { s with heap:=h' }) :
  wpAny (model prog w) A (pyNext (.ref it)) Q E s:=by
 obtain⟨o,ho,hc,hd⟩:=id hit
 unfold pyNext
 refine wpAny_bind (wpAny_attempt (wpAny_callSpecial?_slot (name:=Str.ofString "__next__") hit.typeIs F.slot_dict_keyiterator_next
  (wpAny_call_entry F.slot_dict_keyiterator_next hit.typeIs F.entry_dict_keyiterator_next ?_ (F.args_dict_keyiterator_next_1 _))))
 refine wpAny_bind (wpAny_pure (wpAny_bind (wpAny_bind ?_)))
 first | refine wpAny_bind (wpAny_typeNameOfWhole_keyiter hit.typeIs (wpAny_pure ?_)) | refine wpAny_bind (wpAny_typeNameOf_keyiter hit.typeIs (wpAny_pure ?_))
 refine wpAny_bind (wpAny_fieldsOf ho hd ?_)
 have hown:Builtin.Dict_items.ownsTuple "dict_keyiterator"=false:=by decide
 simp only[hown,Bool.false_eq_true,if_false]
 show wpAny _ _ (if(Value.ref d == Value.none)=true then _ else _) _ _ s
 rw[if_neg (show ¬ ((Value.ref d == Value.none)=true)from Bool.false_ne_true)]
 refine wpAny_bind (wpAny_pure (wpAny_bind (wpAny_dictEntries hod hdd ?_)))
 rw[if_neg (by simp)]
 refine wpAny_bind (wpAny_pure (wpAny_bind (wpAny_dictEpoch hod hdd ?_)))
 rw[if_neg (by simp)]
 refine wpAny_pure ?_
 simp only[show ¬ ((i:Int)<0)from by omega,if_false,Int.toNat_natCast,he]
 refine wpAny_bind ?_
 first | refine wpAny_bind (wpAny_typeNameOfWhole_keyiter hit.typeIs (wpAny_pure ?_)) | refine wpAny_bind (wpAny_typeNameOf_keyiter hit.typeIs (wpAny_pure ?_))
 refine wpAny_bind (wpAny_isOneOf_keyiter hit.typeIs ?_)
 show wpAny _ _ (setField (.ref it) 1 (rawInt ((i:Int)+1)) >>= _) _ _ s
 refine wpAny_bind (wpAny_setField ho hd (by simp) ?_)
 have hit':(s.heap.update it (Obj.mapFields (·.setIfInBounds 1 (rawInt ((i:Int)+1))))).IsKeyIter it d (i+1) es.size ep :=
  ⟨_,Heap.get?_update_self _ ho (Obj.isFreed_of_fields (Obj.data_mapFields hd _)),(Obj.cls_mapFields ..).trans hc,by rw[Obj.data_mapFields hd];simp[rawInt]⟩
 refine wpAny_bind (wpAny_holding (wpAny_bind (wpAny_isOneOf_keyiter (s:={ s with heap:=s.heap.update it (Obj.mapFields (·.setIfInBounds 1 (rawInt ((i:Int)+1)))) }) hit'.typeIs ?_)))
 show wpAny _ _ (pure e.key) _ _ _
 exact wpAny_pure (wpAny_pure ⟨_,rfl,wpAny_pure (hQ _ hit' (Heap.SameBut.update ..))⟩)
theorem sV{Q:Option Value->Shared->Prop}(hh:A.handled=none)(hit:s.heap.IsKeyIter it d i es.size ep)(hod:s.heap.get? d=some od)(hdd:od.data=.dict es ep)(hge:es.size<=i)
  (hQ:∀ h',Heap.ExtBut it s.heap h'->Q none { s with heap:=h' }):wpAny (model prog w) A (pyNext (.ref it)) Q E s:=by
 obtain⟨o,ho,hc,hd⟩:=id hit
 unfold pyNext
 refine wpAny_bind (wpAny_attempt (wpAny_callSpecial?_slot (name:=Str.ofString "__next__") hit.typeIs F.slot_dict_keyiterator_next
  (wpAny_call_entry F.slot_dict_keyiterator_next hit.typeIs F.entry_dict_keyiterator_next ?_ (F.args_dict_keyiterator_next_1 _))))
 refine wpAny_bind (wpAny_pure (wpAny_bind (wpAny_bind ?_)))
 first | refine wpAny_bind (wpAny_typeNameOfWhole_keyiter hit.typeIs (wpAny_pure ?_)) | refine wpAny_bind (wpAny_typeNameOf_keyiter hit.typeIs (wpAny_pure ?_))
 refine wpAny_bind (wpAny_fieldsOf ho hd ?_)
 have hown:Builtin.Dict_items.ownsTuple "dict_keyiterator"=false:=by decide
 simp only[hown,Bool.false_eq_true,if_false]
 show wpAny _ _ (if(Value.ref d == Value.none)=true then _ else _) _ _ s
 rw[if_neg (show ¬ ((Value.ref d == Value.none)=true)from Bool.false_ne_true)]
 refine wpAny_bind (wpAny_pure (wpAny_bind (wpAny_dictEntries hod hdd ?_)))
 rw[if_neg (by simp)]
 refine wpAny_bind (wpAny_pure (wpAny_bind (wpAny_dictEpoch hod hdd ?_)))
 rw[if_neg (by simp)]
 refine wpAny_pure ?_
 simp only[show ¬ ((i:Int)<0)from by omega,if_false,Int.toNat_natCast,Array.getElem?_eq_none hge]
 refine wpAny_bind ?_
 first | refine wpAny_bind (wpAny_typeNameOfWhole_keyiter hit.typeIs (wpAny_pure ?_)) | refine wpAny_bind (wpAny_typeNameOf_keyiter hit.typeIs (wpAny_pure ?_))
 show wpAny _ _ (setField (.ref it) 0 .none >>= _) _ _ s
 refine wpAny_bind (wpAny_setField ho hd (by simp) ?_)
 show wpAny _ _ (newExc (.type "StopIteration") [] >>= _) _ _ _
 refine wpAny_bind ?_
 simp only[newExc,newTuple]
 refine wpAny_bind (wpAny_newObj_type ?_ (by size_fits))
 refine wpAny_bind (m:=firstArgMember _ _) (wpAny_of_eq (a:=Value.none) (by first | rfl | (simp only[firstArgMember];rfl)) ?_)
 refine wpAny_newObj_type ?_ (by size_fits)
 simp only[raiseNew]
 refine wpAny_bind (wpAny_handled ?_)
 rw[show A.in1.handled=none from hh]
 refine wpAny_bind (wpAny_pure (wpAny_throw ?_))
 refine wpAny_bind (wpAny_isInstance (T:="StopIteration") (b:=true) ⟨_,Heap.get?_push_size _ rfl,rfl⟩ isSubtype_stop ?_)
 exact wpAny_pure (hQ _ (((Heap.SameBut.update ..).extBut.push _).push _))
end
def FH(d:Addr)(o:Obj)(kvs:List (List AN × V)):It :=
 ⟨λi H=>H d=some (.frz o (.dT kvs))/\i<kvs.length,λi H x H'=>H'=H/\∃ b k v,x=.ref b/\kvs[i]? =some (k,v)/\H b=some (.tup (k.map kV)),λi H=>H d=some (.frz o (.dT kvs))/\kvs.length<=i⟩
theorem XI{P:Program}{w:World}{K:W.Frag}{tg:Expr}(d it:Addr){o:Obj}{kvs:List (List AN × V)}{es:Array DictEntry}{ep:Nat}(hdat:o.data=.dict es ep):G5 P w K tg (FH d o kvs) [it] it (λi h=>h.IsKeyIter it d i es.size ep) where
 mem:=by simp
 obj:=λi h st b hb=>by
  have e:b=it:=by simpa using hb
  subst e
  obtain⟨o,e,c,d⟩:=st
  exact⟨o,e,λv z=>by rw[d]at z;cases z⟩
 keep:=λi h h' st k=>st.at λo e=>k it (by simp) o e
 item:=by
  intro X hP hw hK hc i pins s σ H E I hf st hg
  subst hP hw hK
  obtain⟨hq,hi⟩:=hg
  obtain⟨h1,z,y,xs,r,o',es',ep',g1,g2,g3,g4,g5⟩:=(show ObjOk X.prog X.w H s.heap d (.frz o (.dT kvs))from I.hok d _ hq)
  rw[h1]at g1;cases g1
  rw[hdat]at g3;cases g3
  obtain⟨f0,f1,f2,f3,f4,f5⟩:=hf it (by simp)
  have hx:=List.getElem?_eq_getElem hi
  have hl:xs.length=kvs.length:=r.length.symm
  obtain⟨x,ex,hx2⟩:∃ x,xs[i]? =some x/\(kvs[i].1=x.1/\H x.2.1=some (.tup (kvs[i].1.map kV))/\RelV kvs[i].2 x.2.2):=by
   have hix:i<xs.length:=by omega
   obtain⟨y,e1,e2⟩:=LG r (List.getElem?_eq_getElem hix)
   rw[hx]at e1
   cases e1
   exact⟨_,List.getElem?_eq_getElem hix,e2⟩
  have he:es[i]? =some (entryOfKey (tupleKind (C4 X.prog X.w)) x):=by
   rw[<-Array.getElem?_toList,g4,List.getElem?_map,ex];rfl
  refine sU st h1 hdat he λh' st' sb=> ?_
  have I1:Inv X pins σ H { s with heap:=h' }:=I.turned (t':=s.toks) (λb o hb e=>(sb.2 b hb).trans e) f0 f1 f3 f4 f5
  obtain⟨o2,e2,c2,d2⟩:=id st'
  exact⟨_,rfl,MO (s:={ s with heap:=h' }) e2 c2 d2 (by decide) ⟨.ref x.2.1,H,I1,rfl,⟨rfl,x.2.1,kvs[i].1,kvs[i].2,rfl,hx,hx2.2.1⟩,st',λb hb=>(hf b hb).1⟩⟩
 done:=by
  intro X hP hw hK hc i pins s σ H E I hf st hg
  subst hP hw hK
  obtain⟨hq,hi⟩:=hg
  obtain⟨h1,z,y,xs,r,o',es',ep',g1,g2,g3,g4,g5⟩:=(show ObjOk X.prog X.w H s.heap d (.frz o (.dT kvs))from I.hok d _ hq)
  rw[h1]at g1;cases g1
  rw[hdat]at g3;cases g3
  obtain⟨f0,f1,f2,f3,f4,f5⟩:=hf it (by simp)
  have hes:es.size=kvs.length:=by
   rw[<-Array.length_toList,g4,List.length_map,r.length]
  exact sV (I.ok.hd hc) st h1 hdat (by omega) λh' eb=>⟨rfl,I.turned (t':=s.toks) (λb o hb e=>eb b o hb e) f0 f1 f3 f4 f5⟩
 self:=λ_ _ _ _ _ st h=>wpAny_pyIter_keyiter st h
def sW(te:TE):TI:=λσ H R=>te σ H λx H1=>∃ d kvs,x=.ref d/\H1 d=some (.dT kvs)/\∀ o,R (FH d o kvs) (upd H1 d (.frz o (.dT kvs)))
theorem XJ{d:Addr}{ob:Obj}{kvs:List (List AN × V)}{g:TG}{tb:TS}{D:Ends}{σ:St}{H:Hp}(Pv:Nat->St->Hp->Prop)(h0:Pv 0 σ H)(hl:∀ i σ H,i<=kvs.length->Pv i σ H->H d=some (.frz ob (.dT kvs)))
  (hs:∀ i b k v σ H,kvs[i]? =some (k,v)->H b=some (.tup (k.map kV))->Pv i σ H->g (.ref b) σ H λσ2 H2=>tb { D with nx:=Pv (i+1),ct:=Pv (i+1),bk:=D.nx } σ2 H2) (hd:∀ σ H,Pv kvs.length σ H->D.nx σ H):DE (FH d ob kvs) g tb D σ H:=by
 refine⟨λi m σ H=>m=kvs.length - i/\i<=kvs.length/\Pv i σ H,⟨_,rfl,Nat.zero_le _,h0⟩,?_⟩
 rintro i m σ H ⟨rfl,hi,p⟩
 by_cases hlt:i<kvs.length
 ·refine .inr ⟨⟨hl i σ H hi p,hlt⟩,Pv (i+1),λσ' H' p'=>⟨_,by omega,rfl,by omega,p'⟩,?_⟩
  rintro x H' ⟨rfl,b,k,v,rfl,e1,e2⟩
  exact hs i b k v σ H' e1 e2 p
 ·have e:i=kvs.length:=by omega
  subst e
  exact .inl ⟨⟨hl _ σ H hi p,hi⟩,hd σ H p⟩
theorem sX{te:TE}{g:TG}{s1:TS}{D:Ends}{σ:St}{H:Hp}:B7 (sW te) g s1 D σ H=(te σ H λx H1=>∃ d kvs,x=.ref d/\H1 d=some (.dT kvs)/\∀ o,DE (FH d o kvs) g s1 D σ (upd H1 d (.frz o (.dT kvs)))):=rfl
end L2
namespace L2
section
variable{X:Cx}
end
section
variable{K:W.Frag}{tt:TT}{te:TE}{cap:List Nat}{σ:St}{H:Hp}{Q:VK}
end
end L2
namespace L2
section
variable{X:Cx}{tg:Expr}
end
section
variable{K:W.Frag}{tt:TT}{cap:List Nat}{σ:St}{H:Hp}{Q:VK}
def Lg(lo:Int)(n:Nat):List Int:=(List.range n).map λ(i:Nat)=>lo - (i:Int)
end
section
variable{P:Program}{w:World}{A:Around}{E:Value->Shared->Prop}{s:Shared}
end
section
variable{X:Cx}
end
end L2
namespace L2
section
variable{P:Program}{w:World}{A:Around}{E:Value->Shared->Prop}{s:Shared}
end
def EnSt(e it l:Addr)(i:Nat)(h:Heap):Prop:=(∃ old,IsEnum h e it i old)/\h.IsListIter it l i
theorem EnSt.lt{e it l:Addr}{i:Nat}{h:Heap}(q:EnSt e it l i h):∀ b∈[e,it],b<h.objs.size:=by
 obtain⟨⟨old,h1⟩,o,h2,_⟩:=q
 intro b hb
 simp only[List.mem_cons,List.not_mem_nil,or_false]at hb
 rcases hb with rfl | rfl
 ·exact Heap.lt_size h1
 ·exact Heap.lt_size h2
section
variable{X:Cx}
end
end L2
namespace L2
section
variable{X:Cx}
def sY(K:W.Frag):List V->Hp->VK->Prop:=λxs H Q=>∃ i j,xs=[.int i,.int j]/\Q (.int (if j<i then j else i)) H
theorem sZ{K:W.Frag}{i j:Int}{H:Hp}{Q:VK}:sY K [.int i,.int j] H Q=Q (.int (if j<i then j else i)) H:=propext ⟨λ⟨_,_,e,q⟩=>by cases e;exact q,λq=>⟨_,_,rfl,q⟩⟩
end
end L2
namespace L2
section
variable{P:Program}{w:World}{A:Around}{E:Value->Shared->Prop}{s:Shared}
end
section
variable{X:Cx}
end
end L2
namespace L2
section
variable{X:Cx}{pins:List (Addr × Obj)}{σ:St}{H:Hp}{s:Shared}
variable{tg iter elt:Expr}{ifs:List Expr}{scope:Scope}{pos:Pos}{td:TE}{g:TG}{tt:TT}{te:TE}{tn cn:List Str}{cap:List Nat}
def XL(K:W.Frag):List V->Hp->VK->Prop:=λxs H Q=>∃ a kvs,xs=[V.ref a]/\H a=some (.dK kvs)/\Q (.int kvs.length) H
theorem tD:CallR X (.builtin "len") (XL X.K):=kH
end
end L2
namespace L2
theorem FnScope.go{N P:List Str}{sc:Scope}(h1:sc.kind=.function:=by exact rfl)(h2:sc.isCoroutine=false:=by exact rfl)(h3:sc.isGenerator=false:=by exact rfl)(h4:N.Nodup:=by decide +kernel)(h5:N.take P.length=P:=by exact rfl)(h6:∀ x∈P,sc.names.lookup x=some .local\/sc.names.lookup x=some .cell:=by decide +kernel)(h7:∀ y∈sc.names,y.2≠.free:=by decide +kernel):FnScope N P sc:=⟨h1,h2,h3,h4,h5,h6,h7⟩
theorem Room.m{j k:Nat}{A:Around}(r:Room k A)(h:j<=k:=by decide):Room j A:=r.mono h
abbrev FP(P:Program)(w:World)(K:W.Frag)(mg:Str->Option Value)(base:Heap)(k:Nat)(f:Addr)(fd:FuncData)(ps:List Str)(sp:Sp):Prop:=FnOk P w K mg base (CQ P w) k f fd ps sp
theorem Fun.okF{P:Program}{w:World}{K:W.Frag}{mg:Str->Option Value}{base:Heap}{x qual:Str}{st:Stmt}{f:Addr}{fd:FuncData}{N ps:List Str}{k:Nat}{sp:Sp}(F:Fun K x qual st f fd)(rd:(St->XK)->TS)(S:FnScope N ps (AO st))(len:∀ {vs H Q E},sp vs H Q E->vs.length=ps.length)
  (ok:∀ {vs H Q E},sp vs H Q E->rd (λ_=>E) { nx:=λ_ H'=>Q .non H',rt:=Q } (A5 N vs) H)
  (hb:∀ (cdv:Value) (A:Around) (outer:List Env) (s:Shared) (H:Hp) (E:XK),Room k (A.deeper (envOfC qual (AO st) s.heap.objs.size f cdv))->XOk (FB (CQ P w) P w K mg base N qual (AO st) f cdv A outer s H E) (λ_=>E) →
   PSs (FB (CQ P w) P w K mg base N qual (AO st) f cdv A outer s H E) (A8 st) (rd λ_=>E)):FP P w K mg base (k+1) f fd ps sp :=
 F.okE S (λ_ _ _ _=>len) λcdv A outer s H _ _ E hr h=>⟨_,hb cdv A outer s H E hr kQ,ok h⟩
section
variable{X:Cx}{pos:Pos}
theorem BQ(i:Nat){x:Str}{e:Expr}{te:TE}{pos':Pos}(hN:X.N.Nodup)(he:PE X e te)(hi:X.N[i]? =some x:=by exact rfl)(hx:IG X.env.scope x:=by exact Or.inl rfl)(hs:swapsWith e (some (.Name x pos')) pos.line X.env=pure false:=by rfl)(hf:X.fn x=true\/X.env.scope.names.lookup x=some .local:=by first | exact .inl rfl | exact .inr rfl | assumption) :
  PS X (.Assign [.Name x pos'] e pos) (A9 te (AW i)):=gR hN hi hx he hs hf
theorem C2(i:Nat){x:Str}(hN:X.N.Nodup)(hi:X.N[i]? =some x:=by exact rfl)(hx:IG X.env.scope x:=by exact Or.inl rfl)(hf:X.fn x=true\/X.env.scope.names.lookup x=some .local:=by first | exact .inl rfl | exact .inr rfl | assumption):PG X (.Name x pos) (AW i):=GJ hN hi hx hf
end
end L2
namespace L2
def NP(t t':TE):TE:=λσ H Q=>t σ H Q\/t' σ H Q
def NQ(C:Addr):TE:=λσ H Q=>∀ x dx,H x=none->H dx=none->dx≠x->Q (.ref x) (upd (upd H dx (.own x)) x (.ins C dx []))
theorem tE{t t':TE}{σ:St}{H:Hp}{Q:VK}:NP t t' σ H Q=(t σ H Q\/t' σ H Q):=rfl
theorem tF{C:Addr}{σ:St}{H:Hp}{Q:VK}:NQ C σ H Q=∀ x dx,H x=none->H dx=none->dx≠x->Q (.ref x) (upd (upd H dx (.own x)) x (.ins C dx [])):=rfl
section
variable{X:Cx}{C:Addr}{x:Str}{p pos:Pos}{e:Expr}{t t':TE}
theorem XM(h:PE X e t)(h':PE X e t'):PE X e (NP t t'):=λpins s σ H Q I z=>z.elim (h pins s σ H Q I) (h' pins s σ H Q I)
structure NR(K:W.Frag)(mg:Str->Option Value)(C:Addr)(x:Str):Prop where
 makes:W.makesIn K C=true
 init:W.findIn K (.ref C) "__init__"=some (some (.builtin "object.__init__"))
 kp:W.keepIn K (.ref C)=true
 nm:mg x=some (.ref C)
theorem tG{pins:List (Addr × Obj)}{σ:St}{H:Hp}{s:Shared}{Q:VK}(M:NR X.K X.mg C x)(I:Inv X pins σ H s)
  (h:∀ x dx,H x=none->H dx=none->dx≠x->Q (.ref x) (upd (upd H dx (.own x)) x (.ins C dx []))) :
  wpAny (model X.prog X.w) X.A (call (.ref C) []) (EP X pins σ Q) X.xe s:=by
 have hq:=h (s.heap.objs.size+1) s.heap.objs.size (I.hok.fresh (Nat.le_succ _)) (I.hok.fresh (Nat.le_refl _)) (Nat.ne_of_lt (Nat.lt_succ_self _))
 have I2:=Inv.made (C:=C) I
 have Y:=W.makes_of (M:=model X.prog X.w) I.kIn M.makes
 refine wpAny_call (iP I.kIn M.makes M.init (λself=>W.Looks.of_pure (W.oi_bind self)) ?_)
 have g1:((s.heap.push W.emptyDict).push (W.instObj C s.heap.objs.size)).get? (s.heap.objs.size+1)=some (W.instObj C s.heap.objs.size):=by
  have e:(s.heap.push W.emptyDict).objs.size=s.heap.objs.size+1:=size_push' ..
  rw[<-e]
  exact Heap.get?_push_size _ rfl
 have t1:W.Looks (model X.prog X.w) ((s.heap.push W.emptyDict).push (W.instObj C s.heap.objs.size)) (typeOf (.ref (s.heap.objs.size+1))) (.ref C):=(W.Looks.ld g1).andThen .now
 have t2:W.Looks (model X.prog X.w) ((s.heap.push W.emptyDict).push (W.instObj C s.heap.objs.size)) (isInstance (.ref (s.heap.objs.size+1)) (.type "object")) true:=t1.andThen (Y.top.keeps λb o e=>Heap.get?_push_of_some _ (Heap.get?_push_of_some _ e))
 refine codeAny_call_builtin W.oi_plain W.entry_oi (@W.check_slot (model X.prog X.w) _ _ _ "object.__init__" "object" "__init__" (.ref (s.heap.objs.size+1)) [] [] _ W.oi_kind W.oi_split t2 (W.oi_args (.ref (s.heap.objs.size+1))) ?_)
 rw[W.oi_run]
 exact wpAny_pure (And.intro rfl ⟨V.ref (s.heap.objs.size+1),_,I2,rfl,hq⟩)
theorem XN(M:NR X.K X.mg C x)(hg:Gl X x)(hdb:(x ==("__debug__":Str))=false:=by decide):PE X (.Call (.Name x p) [] [] pos) (NQ C):=by
 intro pins s σ H Q I h
 refine wpAny_Call_Name_kw (KR I hg M.nm ?_ hdb)
 exact W.callWith_K0 I.kIn M.kp (tG M I h)
end
end L2
namespace L2
def NS(te:TE):TI:=λσ H R=>te σ H λx H1=>∃ d kvs,x=.ref d/\((H1 d=some (.dT kvs)/\∀ o,R (FH d o kvs) (upd H1 d (.frz o (.dT kvs))))\/∃ o,H1 d=some (.frz o (.dT kvs))/\R (FH d o kvs) H1)
theorem XO{X:Cx}{tg a:Expr}{te:TE}(ha:PE X a te):PI X tg a (NS te):=by
 intro pins s σ H R I h
 refine AM (ha pins s σ H _ I h) λv s1 ⟨x,H1,I1,r1,d,kvs,e,hq⟩=> ?_
 subst e
 cases r1
 rcases hq with⟨hd,q⟩ | ⟨o,hd,q⟩
 ·obtain⟨z,y,xs,r,o,es,ep,g1,g2,g3,g4,g5⟩:=(show ObjOk X.prog X.w H1 s1.heap d (.dT kvs)from I1.hok d _ hd)
  refine XH y g1 g2 g3 ?_
  have new:ObjOk X.prog X.w (upd H1 d (.frz o (.dT kvs))) s1.heap d (.frz o (.dT kvs)):=⟨g1,(I1.hok d _ hd).stay (λ_ _ _ e=>e) (λb e=>by rw[AI (A3 e hd (by intro z;cases z))];exact e) λb xs e=>by rw[AI (A3 e hd (by intro z;cases z))];exact e⟩
  have I2:Inv X pins σ (upd H1 d (.frz o (.dT kvs))) { s1 with heap:=s1.heap,toks:=s1.toks }:=I1.write (by rw[hd];trivial) (.inl rfl) (λ_ _ _ e=>e) ⟨o,g1⟩ new
  have I3:Inv X pins σ (upd H1 d (.frz o (.dT kvs))) { s1 with heap:=s1.heap.push { cls:=.type "dict_keyiterator",data:=.fields #[.ref d,.int 0 0,.int es.size 0,.int ep 0] } }:=I2.kept (t':=s1.toks) λb o e=>Heap.get?_push_of_some _ e
  exact⟨_,[s1.heap.objs.size],_,_,_,rfl,I3,XI d s1.heap.objs.size g3,⟨_,Heap.get?_push_size _ rfl,rfl,by simp⟩,λb hb=>by
   have e:b=s1.heap.objs.size:=by simpa using hb
   subst e
   exact I2.fpOk (Nat.le_refl _) (I2.hok.fresh (Nat.le_refl _)),q o⟩
 ·obtain⟨h1,z,y,xs,r,o',es,ep,g1,g2,g3,g4,g5⟩:=(show ObjOk X.prog X.w H1 s1.heap d (.frz o (.dT kvs))from I1.hok d _ hd)
  rw[h1]at g1;cases g1
  refine XH y h1 g2 g3 ?_
  have I3:Inv X pins σ H1 { s1 with heap:=s1.heap.push { cls:=.type "dict_keyiterator",data:=.fields #[.ref d,.int 0 0,.int es.size 0,.int ep 0] } }:=I1.kept (t':=s1.toks) λb o e=>Heap.get?_push_of_some _ e
  exact⟨_,[s1.heap.objs.size],_,_,_,rfl,I3,XI d s1.heap.objs.size g3,⟨_,Heap.get?_push_size _ rfl,rfl,by simp⟩,λb hb=>by
   have e:b=s1.heap.objs.size:=by simpa using hb
   subst e
   exact I1.fpOk (Nat.le_refl _) (I1.hok.fresh (Nat.le_refl _)),q⟩
theorem P9{te:TE}{g:TG}{s1:TS}{D:Ends}{σ:St}{H:Hp}:B7 (NS te) g s1 D σ H=(te σ H λx H1=>∃ d kvs,x=.ref d/\((H1 d=some (.dT kvs)/\∀ o,DE (FH d o kvs) g s1 D σ (upd H1 d (.frz o (.dT kvs))))\/∃ o,H1 d=some (.frz o (.dT kvs))/\DE (FH d o kvs) g s1 D σ H1)):=rfl
end L2
namespace L2
abbrev Ad:=String->Addr
def SameBut(F:Addr->Prop)(H H':Hp):Prop:=∀ b o,H b=some o->¬ F b->H' b=some o
structure CW(K:W.Frag)(a:Ad):Prop where
 cl:Cls K (a "Plank")
 nC:NoAttr K (a "Plank") "contents"
 nW:NoAttr K (a "Plank") "width"
 nN:NoAttr K (a "Plank") "written"
def pf(cl:Addr)(w n:Int):List (Str × V):=[("contents",.ref cl),("width",.int w),("written",.int n)]
theorem XQ:¬ ("contents":Str)="width":=by decide +kernel
theorem QD:¬ ("contents":Str)="written":=by decide +kernel
theorem QE:¬ ("width":Str)="written":=by decide +kernel
theorem NT(cl:Addr)(w n:Int):(pf cl w n).lookup ("contents":Str)=some (V.ref cl):=by simp[pf]
theorem XR(cl:Addr)(w n:Int):(pf cl w n).lookup ("width":Str)=some (V.int w):=by
 have h:(("width":Str) == "contents")=false:=beq_eq_false_iff_ne.mpr (Ne.symm XQ)
 simp[pf,List.lookup_cons,h]
theorem tH(cl:Addr)(w n:Int):(pf cl w n).lookup ("written":Str)=some (V.int n):=by
 have h:(("written":Str) == "contents")=false:=beq_eq_false_iff_ne.mpr (Ne.symm QD)
 have h2:(("written":Str) == "width")=false:=beq_eq_false_iff_ne.mpr (Ne.symm QE)
 simp[pf,List.lookup_cons,h,h2]
theorem tI(cl:Addr)(w n:Int):A0 "written" (.int n) (A0 "width" (.int w) (A0 "contents" (.ref cl) []))=pf cl w n:=by
 simp only[A0,pf]
 rw[if_neg XQ]
 simp only[A0]
 rw[if_neg QD,if_neg QE]
theorem tJ(cl:Addr)(w n m:Int):A0 "written" (.int m) (pf cl w n)=pf cl w m:=by
 simp only[A0,pf]
 rw[if_neg QD,if_neg QE]
 simp
theorem IX(cl:Addr)(w n:Int){m:Str}(h1:¬ m="contents")(h2:¬ m="width")(h3:¬ m="written"):(pf cl w n).lookup m=none:=by
 have e1:=beq_eq_false_iff_ne.mpr h1
 have e2:=beq_eq_false_iff_ne.mpr h2
 have e3:=beq_eq_false_iff_ne.mpr h3
 simp[pf,List.lookup_cons,e1,e2,e3]
structure PlankAt(a:Ad)(H:Hp)(p cl:Addr)(w:Nat)(rows:List (List V))(n:Nat):Prop where
 ob:∃ dx,H p=some (.ins (a "Plank") dx (pf cl w n))
 ls:∃ ts:List Addr,H cl=some (.lst (ts.map V.ref))/\Paired (λt r=>H t=some (.tup r)) ts rows
 wd:∀ r∈rows,r.length=w
 sz:rows.length<=1000
 sw:w<=1000
theorem PlankAt.ne{a:Ad}{H:Hp}{p cl:Addr}{w:Nat}{rows:List (List V)}{n:Nat}(P:PlankAt a H p cl w rows n):p≠cl:=by
 obtain⟨⟨dx,h1⟩,⟨ts,h2,_⟩,_⟩:=P
 exact A3 h1 h2 (by intro z;cases z)
theorem PlankAt.keep{a:Ad}{H H':Hp}{p cl:Addr}{w:Nat}{rows:List (List V)}{n:Nat}(P:PlankAt a H p cl w rows n)(h1:H' p=H p)(h2:H' cl=H cl)(h3:∀ b xs,H b=some (.tup xs)->H' b=some (.tup xs)):PlankAt a H' p cl w rows n:=by
 obtain⟨⟨dx,e1⟩,⟨ts,e2,e3⟩,r1,r2,r3⟩:=P
 exact⟨⟨dx,h1.trans e1⟩,⟨ts,h2.trans e2,Paired.mapP e3 λt r q=>h3 t r q⟩,r1,r2,r3⟩
theorem PlankAt.same{a:Ad}{H H':Hp}{p cl:Addr}{w:Nat}{rows:List (List V)}{n:Nat}(P:PlankAt a H p cl w rows n)(s:Same H H'):PlankAt a H' p cl w rows n:=by
 obtain⟨⟨dx,e1⟩,⟨ts,e2,e3⟩,r1,r2,r3⟩:=P
 exact⟨⟨dx,s _ _ e1⟩,⟨ts,s _ _ e2,Paired.mapP e3 λt r q=>s _ _ q⟩,r1,r2,r3⟩
def IY(K:W.Frag)(a:Ad):Sp:=λvs H Q _=>∃ (p dx:Addr) (m w:Nat),vs=[.ref p,.int m,.int w]/\CW K a/\H p=some (.ins (a "Plank") dx [])/\m<=1000/\1<=w/\w<=1000 ∧
 ∀ cl H',H cl=none->PlankAt a H' p cl w (List.replicate m (List.replicate w .non)) 0->SameBut (· =p) H H'->Q .non H'
def F0(K:W.Frag)(a:Ad):Sp:=λvs H Q _=>∃ p cl w rows n,vs=[.ref p]/\CW K a/\PlankAt a H p cl w rows n/\Q (.int rows.length) H
def LJ(K:W.Frag)(a:Ad):Sp:=λvs H Q _=>∃ (p cl:Addr) (w:Nat) (rows:List (List V)) (n:Nat),vs=[.ref p]/\CW K a/\PlankAt a H p cl w rows n/\Q (.int w) H
def F1(K:W.Frag)(a:Ad):Sp:=λvs H Q E=>∃ (p cl:Addr) (w:Nat) (rows:List (List V)) (n:Nat) (b:Int),vs=[.ref p,.int b]/\CW K a/\PlankAt a H p cl w rows n ∧
 (0<=b->b<rows.length->Q .non H)/\(b<0\/rows.length<=b->E (.ref (a "NoBlock")) none H)
def F2(K:W.Frag)(a:Ad):Sp:=λvs H Q E=>∃ (p cl:Addr) (w:Nat) (rows:List (List V)) (n:Nat) (b:Int),vs=[.ref p,.int b]/\CW K a/\PlankAt a H p cl w rows n ∧
 (∀ (i:Nat) row,b=i->rows[i]? =some row->∀ l,H l=none->Q (.ref l) (upd H l (.lst row)))/\(b<0\/rows.length<=b->E (.ref (a "NoBlock")) none H)
def HK(K:W.Frag)(a:Ad):Sp:=λvs H Q E=>∃ (p cl:Addr) (w:Nat) (rows:List (List V)) (n:Nat) (b:Int) (v:Addr) (xs:List V),vs=[.ref p,.int b,.ref v]/\CW K a/\PlankAt a H p cl w rows n/\SqL K H v xs/\xs.length<=2000 ∧
 (∀ (i:Nat),b=i->i<rows.length->xs.length=w->∀ H',PlankAt a H' p cl w (rows.set i xs) (n+1)->SameBut (λx=>x=p\/x=cl) H H'->Q .non H') ∧
 (b<0\/rows.length<=b\/xs.length≠w->E (.ref (a "NoBlock")) none H)
end L2
namespace L2
theorem BH{K:W.Frag}{H:Hp}{p:Addr}{xs:List V}{i:Int}{n:Nat}{v:V}{Q:VK}(h:H p=some (.tup xs))(hi:i=n)(hx:xs[n]? =some v)(q:Q v H):AT K (.ref p) (.int i) H Q :=
 .inr (.inl ⟨p,xs,i,v,rfl,rfl,SqT.of h,by rw[hi];exact VH hx,q⟩)
theorem NU{C C' dx dx':Addr}{fs fs':List (Str × V)}(h:fs≠fs'):HO.ins C dx fs≠HO.ins C' dx' fs':=by
 intro z
 injection z with _ _ z
 exact h z
theorem tK{K:W.Frag}{H:Hp}{p:Addr}{xs:List V}{lo hi:Option Int}{Q:VK}(h:SqL K H p xs)(q:∀ r,H r=none->Q (.ref r) (upd H r (.lst (FQ xs lo hi)))):NC K (.ref p) lo hi H Q:=.inl ⟨p,xs,rfl,h,q⟩
theorem SameBut.refl{F:Addr->Prop}(H:Hp):SameBut F H H:=λ_ _ e _=>e
theorem SameBut.trans{F:Addr->Prop}{H H' H2:Hp}(s:SameBut F H H')(t:SameBut F H' H2):SameBut F H H2:=λb o e n=>t _ _ (s _ _ e n) n
theorem SameBut.wide{F G:Addr->Prop}{H H':Hp}(s:SameBut F H H')(i:∀ x,F x->G x):SameBut G H H':=λb o e n=>s _ _ e λz=>n (i _ z)
theorem Same.sb{F:Addr->Prop}{H H':Hp}(s:Same H H'):SameBut F H H':=λb o e _=>s b o e
theorem SqL.on{K:W.Frag}{H H':Hp}{x:Addr}{xs:List V}(h:SqL K H x xs)(k:∀ o,H x=some o->H' x=some o):SqL K H' x xs:=by
 rcases h with(h | ⟨o,h⟩) | h
 ·exact .inl (.inl (k _ h))
 ·exact .inl (.inr ⟨o,k _ h⟩)
 ·exact .inr h
theorem SqL.sb{K:W.Frag}{F:Addr->Prop}{H H':Hp}{x:Addr}{xs:List V}(h:SqL K H x xs)(s:SameBut F H H')(f:∀ o,H x=some o->¬ F x):SqL K H' x xs:=by
 rcases h with(h | ⟨o,h⟩) | h
 ·exact .inl (.inl (s _ _ h (f _ h)))
 ·exact .inl (.inr ⟨o,s _ _ h (f _ h)⟩)
 ·exact .inr h
theorem SameBut.upd{F:Addr->Prop}{H H':Hp}{p:Addr}{o:HO}(s:SameBut F H H')(h:F p\/H p=none):SameBut F H (upd H' p o):=λb u e n=>by
 have:b≠p:=by
  rcases h with h | h
  ·exact λz=>n (z ▸ h)
  ·exact AS e h
 rw[AI this];exact s _ _ e n
structure Ch where
 blk:Nat
 cell:Nat
 val:V
 nd:List Int
def F3:List Ch->Int->Int->Option Nat
 | [],_,_=>none
 | c::r,i,j=>if(c.blk:Int)=i/\(c.cell:Int)=j then some r.length else F3 r i j
def CA(cs:List Ch)(i j:Int):Option Nat:=F3 cs.reverse i j
def EL:List Ch->Nat->List Nat
 | [],_=>[]
 | c::r,b=>if c.blk=b then EL r b++[r.length]else EL r b
def BM(cs:List Ch)(b:Nat):List Nat:=EL cs.reverse b
theorem NV(cs:List Ch)(c:Ch)(i j:Int):CA (cs++[c]) i j=if(c.blk:Int)=i/\(c.cell:Int)=j then some cs.length else CA cs i j:=by
 simp[CA,F3]
theorem XS(cs:List Ch)(c:Ch)(b:Nat):BM (cs++[c]) b=if c.blk=b then BM cs b++[cs.length]else BM cs b:=by
 simp[BM,EL]
theorem NW:∀ {l:List Ch} {i j:Int} {k:Nat},F3 l i j=some k->k<l.length
 | [],_,_,_,h=>by cases h
 | c::r,i,j,k,h=>by
  unfold F3 at h
  split at h
  ·cases h;simp
  ·have:=NW h
   simp only[List.length_cons];omega
theorem QF{cs:List Ch}{i j:Int}{k:Nat}(h:CA cs i j=some k):k<cs.length:=by
 have:=NW h
 rwa [List.length_reverse]at this
theorem QH:∀ {l:List Ch} {b k:Nat},k∈EL l b->k<l.length
 | [],_,_,h=>by cases h
 | c::r,b,k,h=>by
  unfold EL at h
  split at h
  ·rcases List.mem_append.mp h with h | h
   ·have:=QH h
    simp only[List.length_cons];omega
   ·rw[List.mem_singleton.mp h];simp
  ·have:=QH h
   simp only[List.length_cons];omega
theorem IZ{cs:List Ch}{b k:Nat}(h:k∈BM cs b):k<cs.length:=by
 have:=QH h
 rwa [List.length_reverse]at this
theorem XT:∀ (l:List Ch) (b:Nat),(EL l b).length<=l.length
 | [],_=>Nat.le_refl _
 | c::r,b=>by
  have:=XT r b
  unfold EL
  split<;>simp<;>omega
theorem XU(cs:List Ch)(b:Nat):(BM cs b).length<=cs.length:=by
 have:=XT cs.reverse b
 rwa [List.length_reverse]at this
def DW(pl:Addr)(v:V)(nt:Addr):List (Str × V):=[("place",.ref pl),("value",v),("needs",.ref nt)]
def bf(gp m mi lt ou:Addr):List (Str × V):=[("ground",.ref gp),("made",.ref m),("made_in",.ref mi),("latest",.ref lt),("outs",.ref ou)]
def GX(a b:Str):Bool:=a == b
section
variable{pl nt gp m mi lt ou:Addr}{v:V}
theorem C9{a b:Str}(h:GX a b=false):(a == b)=false:=h
theorem XV:(DW pl v nt).lookup ("place":Str)=some (V.ref pl):=by simp[DW]
theorem XW:(DW pl v nt).lookup ("value":Str)=some v:=by
 simp[DW,List.lookup_cons,C9 (a:="value") (b:="place") (by decide +kernel)]
theorem tL:(DW pl v nt).lookup ("needs":Str)=some (V.ref nt):=by
 simp[DW,List.lookup_cons,C9 (a:="needs") (b:="place") (by decide +kernel),C9 (a:="needs") (b:="value") (by decide +kernel)]
theorem NX{f g:Str}{x y:V}{r:List (Str × V)}(h:GX g f=false):A0 f y ((g,x)::r)=(g,x)::A0 f y r:=by
 have:¬ g=f:=λe=>by rw[e]at h;simp[GX]at h
 simp[A0,this]
theorem NY{f:Str}{y:V}:A0 f y []=[(f,y)]:=rfl
theorem tM:A0 "needs" (.ref nt) (A0 "value" v (A0 "place" (.ref pl) []))=DW pl v nt:=by
 rw[NY,NX (by decide +kernel),NY,NX (by decide +kernel),NX (by decide +kernel),NY]
 rfl
theorem JA:(bf gp m mi lt ou).lookup ("ground":Str)=some (V.ref gp):=by simp[bf]
theorem F4:(bf gp m mi lt ou).lookup ("made":Str)=some (V.ref m):=by
 simp[bf,List.lookup_cons,C9 (a:="made") (b:="ground") (by decide +kernel)]
theorem QI:(bf gp m mi lt ou).lookup ("made_in":Str)=some (V.ref mi):=by
 simp[bf,List.lookup_cons,C9 (a:="made_in") (b:="ground") (by decide +kernel),C9 (a:="made_in") (b:="made") (by decide +kernel)]
theorem XX:(bf gp m mi lt ou).lookup ("latest":Str)=some (V.ref lt):=by
 simp[bf,List.lookup_cons,C9 (a:="latest") (b:="ground") (by decide +kernel),C9 (a:="latest") (b:="made") (by decide +kernel),C9 (a:="latest") (b:="made_in") (by decide +kernel)]
theorem LK:(bf gp m mi lt ou).lookup ("outs":Str)=some (V.ref ou):=by
 simp[bf,List.lookup_cons,C9 (a:="outs") (b:="ground") (by decide +kernel),C9 (a:="outs") (b:="made") (by decide +kernel),C9 (a:="outs") (b:="made_in") (by decide +kernel),C9 (a:="outs") (b:="latest") (by decide +kernel)]
theorem CO{x:Str}(h:(GX x "ground" || GX x "made" || GX x "made_in" || GX x "latest" || GX x "outs")=false):(bf gp m mi lt ou).lookup x=none:=by
 simp only[Bool.or_eq_false_iff]at h
 obtain⟨⟨⟨⟨h1,h2⟩,h3⟩,h4⟩,h5⟩:=h
 simp[bf,List.lookup_cons,C9 h1,C9 h2,C9 h3,C9 h4,C9 h5]
theorem tN:A0 "outs" (.ref ou) (A0 "latest" (.ref lt) (A0 "made_in" (.ref mi) (A0 "made" (.ref m) (A0 "ground" (.ref gp) []))))=bf gp m mi lt ou:=by
 repeat (first | rw[NY] | rw[NX (by decide +kernel)])
 rfl
end
structure XY(K:W.Frag)(C D:Addr):Prop where
 cl:Cls K C
 nG:NoAttr K C "ground"
 nM:NoAttr K C "made"
 nI:NoAttr K C "made_in"
 nL:NoAttr K C "latest"
 nO:NoAttr K C "outs"
 cc:Cls K D
 nP:NoAttr K D "place"
 nV:NoAttr K D "value"
 nN:NoAttr K D "needs"
def ChAt(D:Addr)(H:Hp)(x:Addr)(c:Ch):Prop:=∃ dx pl nt,H x=some (.ins D dx (DW pl c.val nt))/\H pl=some (.tup [.int c.blk,.int c.cell])/\H nt=some (.tup (c.nd.map V.int))
structure BA where
 b:Addr
 gp:Addr
 m:Addr
 mi:Addr
 lt:Addr
 ou:Addr
 ls:List Addr
 cl:Addr
def BA.F(A:BA)(x:Addr):Prop:=x=A.m\/x=A.mi\/x∈A.ls\/x=A.lt\/x=A.ou\/x=A.cl
def KeysOk(kvo:List (AN × V))(n:Nat):Prop:=(kvo.map (·.1)).Nodup/\∀ p∈kvo,∃ x:Nat,p.1=Sum.inl (x:Int)/\x<n
theorem KeysOk.mono{kvo:List (AN × V)}{n m:Nat}(h:KeysOk kvo n)(hm:n<=m):KeysOk kvo m:=⟨h.1,λp hp=>by obtain⟨x,e,hx⟩:=h.2 p hp;exact⟨x,e,by omega⟩⟩
theorem KeysOk.len{kvo:List (AN × V)}{n:Nat}(h:KeysOk kvo n):kvo.length<=n:=by
 have:=List.Nodup.length_le_of_subset (l₂:=(List.range n).map λ(k:Nat)=>(Sum.inl (k:Int):AN)) h.1 λk hk=>by
  obtain⟨p,hp,rfl⟩:=List.mem_map.mp hk
  obtain⟨x,e,hx⟩:=h.2 p hp
  rw[e]
  exact List.mem_map.mpr ⟨x,List.mem_range.mpr hx,rfl⟩
 simpa using this
theorem KeysOk.put{kvo:List (AN × V)}{n:Nat}(h:KeysOk kvo n){k:Nat}(hk:k<n)(hn:AZ kvo (.inl (k:Int))=none)(v:V):KeysOk (BT kvo (.inl (k:Int)) v) n:=by
 refine⟨kJ v h.1 hn,λp hp=> ?_⟩
 rw[VX v hn]at hp
 rcases List.mem_append.mp hp with hp | hp
 ·exact h.2 p hp
 ·rw[List.mem_singleton.mp hp];exact⟨k,rfl,hk⟩
structure BookIn(C D:Addr)(H:Hp)(A:BA)(w:Nat)(cs:List Ch)(outs:Int->Bool):Prop where
 ob:∃ dx,H A.b=some (.ins C dx (bf A.gp A.m A.mi A.lt A.ou))
 made:∃ chs:List Addr,H A.m=some (.lst (chs.map V.ref))/\Paired (ChAt D H) chs cs
 mil:H A.mi=some (.lst (A.ls.map V.ref))
 mic:∀ (i:Nat) l,A.ls[i]? =some l->H l=some (.lst ((BM cs i).map λ(k:Nat)=>V.int k))
 nd:A.ls.Nodup
 lat:∃ kvs,H A.lt=some (.dT kvs)/\(∀ i j:Int,AZ kvs [.inl i,.inl j]=(CA cs i j).map λ(k:Nat)=>V.int k)/\kvs.length<=cs.length
 out:∃ kvo,H A.ou=some (.dK kvo)/\(∀ k:Int,(AZ kvo (.inl k)).isSome=outs k)/\KeysOk kvo cs.length
 sz:cs.length<=990
 inn:∀ c∈cs,c.blk<A.ls.length/\c.cell<w
 need:∀ (k:Nat) c,cs[k]? =some c->(∀ x∈c.nd,0<=x/\x<k)/\c.nd.Pairwise (· <·)/\c.nd.length<=100
 ap:A.m≠A.mi/\A.m∉A.ls/\A.mi∉A.ls/\A.cl≠A.m/\A.cl≠A.mi/\A.cl∉A.ls
 chn:∀ (k:Nat) c,cs[k]? =some c->∀ j,CA (cs.take k) c.blk c.cell=some j->(j:Int)∈c.nd
structure BookAt(a:Ad)(C:Addr)(H:Hp)(A:BA)(w:Nat)(rows:List (List V))(n:Nat)(cs:List Ch)(outs:Int->Bool):Prop where
 bk:BookIn C (a "Change") H A w cs outs
 pk:PlankAt a H A.gp A.cl w rows n
 nb:A.ls.length=rows.length
def CP(o:Option HO):Prop:=(∀ xs,o≠some (.tup xs))/\∀ C dx fs,o≠some (.ins C dx fs)
theorem ChAt.sb{D:Addr}{G:Addr->Prop}{H H':Hp}(s:SameBut G H H')(g:∀ x,G x->CP (H x)){x:Addr}{c:Ch}(h:ChAt D H x c):ChAt D H' x c:=by
 obtain⟨dx,pl,nt,e1,e2,e3⟩:=h
 exact⟨dx,pl,nt,s _ _ e1 λz=>(g _ z).2 _ _ _ e1,s _ _ e2 λz=>(g _ z).1 _ e2,s _ _ e3 λz=>(g _ z).1 _ e3⟩
theorem BookIn.sb{C D:Addr}{G:Addr->Prop}{H H':Hp}{A:BA}{w:Nat}{cs:List Ch}{outs:Int->Bool}(B:BookIn C D H A w cs outs)(s:SameBut G H H')(g:∀ x,G x->CP (H x))(f:∀ x,G x->¬ A.F x):BookIn C D H' A w cs outs:=by
 obtain⟨⟨dx,e1⟩,⟨chs,e2,e3⟩,e4,e5,e6,⟨kvs,e7,e8⟩,⟨kvo,e9,e10⟩,r1,r2,r3,r4,r5⟩:=B
 refine⟨⟨dx,s _ _ e1 λz=>(g _ z).2 _ _ _ e1⟩,⟨chs,s _ _ e2 λz=>f _ z (.inl rfl),Paired.mapP e3 λx c h=>h.sb s g⟩,s _ _ e4 λz=>f _ z (.inr (.inl rfl)),λi l h=>s _ _ (e5 i l h) λz=>f _ z (.inr (.inr (.inl (List.mem_of_getElem? h)))),e6,
  ⟨kvs,s _ _ e7 λz=>f _ z (.inr (.inr (.inr (.inl rfl)))),e8⟩,⟨kvo,s _ _ e9 λz=>f _ z (.inr (.inr (.inr (.inr (.inl rfl))))),e10⟩,r1,r2,r3,r4,r5⟩
theorem PlankAt.sbL{a:Ad}{G:Addr->Prop}{H H':Hp}{p cl:Addr}{w:Nat}{rows:List (List V)}{n:Nat}(P:PlankAt a H p cl w rows n)(s:SameBut G H H')(g:∀ x,G x->CP (H x))(h:¬ G cl):PlankAt a H' p cl w rows n:=by
 obtain⟨⟨dx,e1⟩,⟨ts,e2,e3⟩,r1,r2,r3⟩:=P
 exact⟨⟨dx,s _ _ e1 λz=>(g _ z).2 _ _ _ e1⟩,⟨ts,s _ _ e2 h,Paired.mapP e3 λt r q=>s _ _ q λz=>(g _ z).1 _ q⟩,r1,r2,r3⟩
theorem BookAt.sb{a:Ad}{C:Addr}{G:Addr->Prop}{H H':Hp}{A:BA}{w:Nat}{rows:List (List V)}{n:Nat}{cs:List Ch}{outs:Int->Bool}(B:BookAt a C H A w rows n cs outs)(s:SameBut G H H')(g:∀ x,G x->CP (H x))(f:∀ x,G x->¬ A.F x):BookAt a C H' A w rows n cs outs :=
 ⟨B.bk.sb s g f,B.pk.sbL s g λz=>f _ z (.inr (.inr (.inr (.inr (.inr rfl))))),B.nb⟩
theorem BookAt.same{a:Ad}{C:Addr}{H H':Hp}{A:BA}{w:Nat}{rows:List (List V)}{n:Nat}{cs:List Ch}{outs:Int->Bool}(B:BookAt a C H A w rows n cs outs)(s:Same H H'):BookAt a C H' A w rows n cs outs :=
 B.sb (G:=λ_=>False) (Same.sb s) (λ_ z=>z.elim) λ_ z=>z.elim
theorem BookAt.off{a:Ad}{C:Addr}{H:Hp}{A:BA}{w:Nat}{rows:List (List V)}{n:Nat}{cs:List Ch}{outs:Int->Bool}(B:BookAt a C H A w rows n cs outs){x:Addr}(h:H x=none):¬ A.F x:=by
 obtain⟨⟨_,⟨chs,e2,_⟩,e4,e5,_,⟨kvs,e7,_⟩,⟨kvo,e9,_⟩,_⟩,⟨_,⟨ts,e11,_⟩,_⟩,_⟩:=B
 rintro (z | z | z | z | z | z)
 ·rw[z,e2]at h;cases h
 ·rw[z,e4]at h;cases h
 ·obtain⟨i,hi,e⟩:=List.getElem_of_mem z
  have:=e5 i x (by rw[<-e];exact List.getElem?_eq_getElem hi)
  rw[this]at h;cases h
 ·rw[z,e7]at h;cases h
 ·rw[z,e9]at h;cases h
 ·rw[z,e11]at h;cases h
theorem EM{α :Type}{l:List α}{x: α}(h:x∈l):∃ i:Nat,l[i]? =some x:=by
 obtain⟨i,hi,e⟩:=List.getElem_of_mem h
 exact⟨i,by rw[<-e];exact List.getElem?_eq_getElem hi⟩
theorem E3{H:Hp}{x:Addr}{xs:List V}(h:H x=some (.lst xs)):CP (H x):=by
 rw[h];exact⟨λ_ z=>(by cases z),λ_ _ _ z=>(by cases z)⟩
theorem JB{H:Hp}{x:Addr}{xs:List (AN × V)}(h:H x=some (.dK xs)):CP (H x):=by
 rw[h];exact⟨λ_ z=>(by cases z),λ_ _ _ z=>(by cases z)⟩
theorem XZ{H:Hp}{x:Addr}{xs:List (List AN × V)}(h:H x=some (.dT xs)):CP (H x):=by
 rw[h];exact⟨λ_ z=>(by cases z),λ_ _ _ z=>(by cases z)⟩
theorem BookAt.loose{a:Ad}{C:Addr}{H:Hp}{A:BA}{w:Nat}{rows:List (List V)}{n:Nat}{cs:List Ch}{outs:Int->Bool}(B:BookAt a C H A w rows n cs outs){x:Addr}(h:A.F x):CP (H x):=by
 obtain⟨⟨_,⟨chs,e2,_⟩,e4,e5,_,⟨kvs,e7,_⟩,⟨kvo,e9,_⟩,_⟩,⟨_,⟨ts,e11,_⟩,_⟩,_⟩:=B
 rcases h with z | z | z | z | z | z
 ·exact E3 (z ▸ e2)
 ·exact E3 (z ▸ e4)
 ·obtain⟨i,e⟩:=EM z
  exact E3 (e5 i x e)
 ·exact XZ (z ▸ e7)
 ·exact JB (z ▸ e9)
 ·exact E3 (z ▸ e11)
structure Lh(cs:List Ch)(outs:Int->Bool)(ns:List Int)(R:Int->Bool):Prop where
 all:∀ x∈ns,R x=true
 up:∀ (k:Nat) (c:Ch),cs[k]? =some c->outs k=false->R k=true->∀ y∈c.nd,R y=true
 only:∀ x,R x=true->x∈ns\/∃ (k:Nat) (c:Ch),cs[k]? =some c/\outs k=false/\R k=true/\x∈c.nd
end L2
namespace L2
def HL(nd:List Int)(there:Int->Bool):Option Int:=nd.find? λx=> !there x
theorem tO{nd:List Int}{there:Int->Bool}(h:∀ x∈nd,there x=true):HL nd there=none:=List.find?_eq_none.mpr λx hx=>by rw[h x hx];exact Bool.false_ne_true
structure Pass where
 out:List Nat
 held:List (Nat × Int)
 gone:Int->Bool
def CB(cs:List Ch)(outs:Int->Bool)(s:Pass)(k:Nat):Pass :=
 if outs k || s.gone k then s else
  match (cs[k]?).bind λc=>HL c.nd λx=>outs x || s.gone x with
  | none=>⟨s.out++[k],s.held,λx=>s.gone x || x ==(k:Int)⟩
  | some l=>⟨s.out,s.held++[(k,l)],s.gone⟩
def outcome(cs:List Ch)(outs taken:Int->Bool)(b:Nat):Pass:=(BM cs b).foldl (CB cs outs) ⟨[],[],taken⟩
def DN(cs:List Ch)(outs:Int->Bool)(r:List V)(k:Nat):List V :=
 if outs k then match cs[k]? with
  | some c=>r.set c.cell c.val
  | none=>r
 else r
def DO(cs:List Ch)(outs:Int->Bool)(b:Nat)(row:List V):List V:=(BM cs b).foldl (DN cs outs) row
def BU(cs:List Ch)(outs:Int->Bool)(b:Nat):Int->Bool:=λx=>outs x || (outcome cs outs (λ_=>false) b).out.any λ(k:Nat)=>x ==(k:Int)
theorem tP{cs:List Ch}{outs:Int->Bool}(r:List V)(k:Nat):(DN cs outs r k).length=r.length:=by
 unfold DN
 split
 ·split
  ·rw[List.length_set]
  ·rfl
 ·rfl
theorem QJ{cs:List Ch}{outs:Int->Bool}:∀ (l:List Nat) (r:List V),(l.foldl (DN cs outs) r).length=r.length
 | [],r=>rfl
 | k::l,r=>by rw[List.foldl_cons,QJ l,tP]
theorem X2{cs:List Ch}{outs:Int->Bool}{b:Nat}{row:List V}:(DO cs outs b row).length=row.length:=QJ _ _
theorem X3{cs:List Ch}{outs:Int->Bool}:∀ (l:List Nat) (s:Pass),(l.foldl (CB cs outs) s).out.length+(l.foldl (CB cs outs) s).held.length<=s.out.length+s.held.length+l.length
 | [],s=>by simp
 | k::l,s=>by
  rw[List.foldl_cons]
  have h:=X3 (cs:=cs) (outs:=outs) l (CB cs outs s k)
  have h2:(CB cs outs s k).out.length+(CB cs outs s k).held.length<=s.out.length+s.held.length+1:=by
   unfold CB
   split
   ·omega
   ·split<;>simp<;>omega
  simp only[List.length_cons]
  omega
theorem X4{α β :Type}(f: β -> α -> β)(b: β){l:List α}{i:Nat}{x: α}(h:l[i]? =some x):(l.take (i+1)).foldl f b=f ((l.take i).foldl f b) x:=by
 obtain⟨hi,e⟩:=List.getElem?_eq_some_iff.mp h
 rw[<-e,<-List.take_append_getElem hi,List.foldl_append]
 rfl
theorem X5(b:Nat):∀ l:List Ch,EL l b=(List.range l.length).filter λ(k:Nat)=>(l.reverse[k]?).any λc=>c.blk == b
 | []=>rfl
 | c::r=>by
  have ih:=X5 b r
  have e:(List.range r.length).filter (λ(k:Nat)=>((c::r).reverse[k]?).any λc=>c.blk == b)=EL r b:=by
   rw[ih]
   refine List.filter_congr λk hk=> ?_
   rw[List.reverse_cons,List.getElem?_append_left (by rw[List.length_reverse];exact List.mem_range.mp hk)]
  have e2:(c::r).reverse[r.length]? =some c:=by
   rw[List.reverse_cons,List.getElem?_append_right (by rw[List.length_reverse];exact Nat.le_refl _)]
   simp
  rw[List.length_cons,List.range_succ,List.filter_append,e]
  show(if c.blk=b then EL r b++[r.length]else EL r b)=_
  by_cases h:c.blk=b
  ·rw[if_pos h]
   simp[e2,h]
  ·rw[if_neg h]
   simp[e2,h]
theorem X6(cs:List Ch)(b:Nat):BM cs b=(List.range cs.length).filter λ(k:Nat)=>(cs[k]?).any λc=>c.blk == b:=by
 have:=X5 b cs.reverse
 rw[List.reverse_reverse,List.length_reverse]at this
 exact this
theorem QK(cs:List Ch)(b:Nat):(BM cs b).Pairwise (· <·):=by
 rw[X6]
 exact List.pairwise_lt_range.filter _
theorem GY{cs:List Ch}{b k:Nat}:k∈BM cs b↔∃ c,cs[k]? =some c/\c.blk=b:=by
 rw[X6,List.mem_filter,List.mem_range]
 constructor
 ·rintro ⟨h,h2⟩
  rw[List.getElem?_eq_getElem h]at h2 ⊢
  exact⟨_,rfl,by simpa using h2⟩
 ·rintro ⟨c,e,rfl⟩
  exact⟨(List.getElem?_eq_some_iff.mp e).1,by rw[e];simp⟩
theorem X7{cs:List Ch}{outs:Int->Bool}(s:Pass)(k:Nat):CB cs outs s k=s\/(outs k=false/\CB cs outs s k=⟨s.out++[k],s.held,λx=>s.gone x || x ==(k:Int)⟩)\/∃ l,CB cs outs s k=⟨s.out,s.held++[(k,l)],s.gone⟩:=by
 unfold CB
 split
 ·exact .inl rfl
 ·rename_i hc
  simp only[Bool.or_eq_true,not_or,Bool.not_eq_true]at hc
  split
  ·exact .inr (.inl ⟨hc.1,rfl⟩)
  ·exact .inr (.inr ⟨_,rfl⟩)
theorem QL{cs:List Ch}{outs:Int->Bool}:∀ (l:List Nat) (s:Pass),∃ l',(l.foldl (CB cs outs) s).out=s.out++l'/\l'.Sublist l/\(∀ k∈l',outs k=false)/\∀ x,(l.foldl (CB cs outs) s).gone x=(s.gone x || l'.any λ(k:Nat)=>x ==(k:Int))
 | [],s=>⟨[],by simp,.slnil,by simp,by simp⟩
 | k::l,s=>by
  rw[List.foldl_cons]
  obtain⟨l',h1,h2,h3,h4⟩:=QL (cs:=cs) (outs:=outs) l (CB cs outs s k)
  rcases X7 (cs:=cs) (outs:=outs) s k with e | ⟨ho,e⟩ | ⟨l0,e⟩
  ·rw[e]at h1 h4 ⊢
   exact⟨l',h1,h2.cons _,h3,h4⟩
  ·rw[e]at h1 h4 ⊢
   refine⟨k::l',by rw[h1];simp,h2.cons_cons _,λx hx=> ?_,λx=> ?_⟩
   ·rcases List.mem_cons.mp hx with rfl | hx
    ·exact ho
    ·exact h3 x hx
   ·rw[h4,List.any_cons,Bool.or_assoc]
  ·rw[e]at h1 h4 ⊢
   exact⟨l',h1,h2.cons _,h3,h4⟩
theorem LL{cs:List Ch}{outs:Int->Bool}{b:Nat}:(outcome cs outs (λ_=>false) b).out.Pairwise (· <·)/\(∀ k∈(outcome cs outs (λ_=>false) b).out,outs k=false/\k∈BM cs b)/\∀ x,(outcome cs outs (λ_=>false) b).gone x=(outcome cs outs (λ_=>false) b).out.any λ(k:Nat)=>x ==(k:Int):=by
 obtain⟨l',h1,h2,h3,h4⟩:=QL (cs:=cs) (outs:=outs) (BM cs b) ⟨[],[],λ_=>false⟩
 have e:(outcome cs outs (λ_=>false) b).out=l':=by unfold outcome;rw[h1];rfl
 rw[e]
 exact⟨(QK cs b).sublist h2,λk hk=>⟨h3 k hk,h2.subset hk⟩,λx=>by unfold outcome;rw[h4];simp⟩
def ToldAt(H:Hp)(t ol hl:Addr)(out:List Nat)(held:List (Nat × Int)):Prop:=H t=some (.tup [.ref ol,.ref hl])/\H ol=some (.lst (out.map λ(k:Nat)=>V.int k))/\∃ hs:List Addr,H hl=some (.lst (hs.map V.ref))/\Paired (λx (p:Nat × Int)=>H x=some (.tup [.int p.1,.int p.2])) hs held
theorem ToldAt.same{H H':Hp}{t ol hl:Addr}{out:List Nat}{held:List (Nat × Int)}(h:ToldAt H t ol hl out held)(s:Same H H'):ToldAt H' t ol hl out held:=by
 obtain⟨h1,h2,hs,h3,h4⟩:=h
 exact⟨s _ _ h1,s _ _ h2,hs,s _ _ h3,Paired.mapP h4 λx p e=>s _ _ e⟩
theorem ToldAt.sb{F:Addr->Prop}{H H':Hp}{t ol hl:Addr}{out:List Nat}{held:List (Nat × Int)}(h:ToldAt H t ol hl out held)(s:SameBut F H H')(n:∀ x,F x->∀ xs,H x≠some (.tup xs))(n1:¬ F ol)(n2:¬ F hl):ToldAt H' t ol hl out held:=by
 obtain⟨h1,h2,hs,h3,h4⟩:=h
 exact⟨s _ _ h1 λz=>n _ z _ h1,s _ _ h2 n1,hs,s _ _ h3 n2,Paired.mapP h4 λx p e=>s _ _ e λz=>n _ z _ e⟩
def NZ(cs:List Ch)(r:List V)(k:Nat):List V:=match cs[k]? with
 | some c=>r.set c.cell c.val
 | none=>r
def N0(cs:List Ch)(ks:List Nat)(row:List V):List V:=ks.foldl (NZ cs) row
theorem LM(cs:List Ch)(O:Int->Bool)(b:Nat)(row:List V):DO cs O b row=N0 cs ((BM cs b).filter λ(k:Nat)=>O k) row:=by
 unfold DO N0
 rw[List.foldl_filter]
 rfl
def EN(cs:List Ch):List Nat->Nat->Option Ch
 | [],_=>none
 | k::r,j=>match EN cs r j with
  | some c=>some c
  | none=>(cs[k]?).filter λc=>c.cell == j
theorem QM(cs:List Ch)(k:Nat)(r:List Nat)(j:Nat):EN cs (k::r) j=match EN cs r j with
  | some c=>some c
  | none=>(cs[k]?).filter λc=>c.cell == j:=rfl
theorem LN(cs:List Ch)(j:Nat):∀ (ks:List Nat) (row:List V),(N0 cs ks row)[j]? =(row[j]?).map λv=>((EN cs ks j).map (·.val)).getD v
 | [],row=>by
  show row[j]? =_
  cases row[j]? <;>rfl
 | k::r,row=>by
  show(N0 cs r (NZ cs row k))[j]? =_
  rw[LN cs j r,QM]
  cases h:EN cs r j with
  | some c =>
   unfold NZ
   cases e:cs[k]? with
   | none=>rfl
   | some c0 =>
    dsimp only
    rw[List.getElem?_set]
    by_cases hj:c0.cell=j
    ·subst hj
     rw[if_pos rfl]
     by_cases hl:c0.cell<row.length
     ·rw[if_pos hl,List.getElem?_eq_getElem hl];rfl
     ·rw[if_neg hl,List.getElem?_eq_none (by omega)]
    ·rw[if_neg hj]
  | none =>
   unfold NZ
   cases e:cs[k]? with
   | none=>rfl
   | some c0 =>
    dsimp only
    rw[List.getElem?_set]
    by_cases hj:c0.cell=j
    ·subst hj
     rw[if_pos rfl]
     by_cases hl:c0.cell<row.length
     ·rw[if_pos hl,List.getElem?_eq_getElem hl];simp[Option.filter]
     ·rw[if_neg hl,List.getElem?_eq_none (by omega)];rfl
    ·rw[if_neg hj]
     have:(Option.filter (λ(c:Ch)=>c.cell == j) (some c0))=none:=by simp[Option.filter,hj]
     rw[this]
theorem N1{cs:List Ch}{j:Nat}{c:Ch}:∀ {ks:List Nat},EN cs ks j=some c->∃ k∈ks,cs[k]? =some c/\c.cell=j/\(ks.Pairwise (· <·)->∀ k'∈ks,k<k'->∀ c',cs[k']? =some c'->c'.cell≠j)
 | [],h=>by cases h
 | k::r,h=>by
  rw[QM]at h
  cases e:EN cs r j with
  | some c1 =>
   rw[e]at h
   cases h
   obtain⟨k1,h1,h2,h3,h4⟩:=N1 e
   refine⟨k1,List.mem_cons_of_mem _ h1,h2,h3,λhp k' hk' hlt c' ec=> ?_⟩
   obtain⟨p1,p2⟩:=List.pairwise_cons.mp hp
   rcases List.mem_cons.mp hk' with rfl | hk'
   ·have:=p1 k1 h1;omega
   ·exact h4 p2 k' hk' hlt c' ec
  | none =>
   rw[e]at h
   dsimp only at h
   cases ec:cs[k]? with
   | none=>rw[ec]at h;cases h
   | some c0 =>
    rw[ec]at h
    have hc:c0.cell=j/\c0=c:=by
     simp only[Option.filter]at h
     split at h
     ·rename_i hh;cases h;exact⟨by simpa using hh,rfl⟩
     ·cases h
    obtain⟨hc,rfl⟩:=hc
    refine⟨k,List.mem_cons_self ..,ec,hc,λhp k' hk' hlt c' ec'=> ?_⟩
    rcases List.mem_cons.mp hk' with rfl | hk'
    ·omega
    ·exact lastAt_no e k' hk' c' ec'
where
 lastAt_no {cs:List Ch} {j:Nat}:∀ {ks:List Nat},EN cs ks j=none->∀ k∈ks,∀ c,cs[k]? =some c->c.cell≠j
  | [],_,k,hk=>by cases hk
  | k0::r,h,k,hk=>λc ec hj=>by
   rw[QM]at h
   cases e:EN cs r j with
   | some c1=>rw[e]at h;cases h
   | none =>
    rw[e]at h
    rcases List.mem_cons.mp hk with rfl | hk
    ·rw[ec]at h
     simp[Option.filter,hj]at h
    ·exact lastAt_no e k hk c ec hj
theorem X8{i j:Int}:∀ {l:List Ch} {k:Nat} {c:Ch},l.reverse[k]? =some c->(c.blk:Int)=i->(c.cell:Int)=j->∃ j0 c0,F3 l i j=some j0/\k<=j0/\l.reverse[j0]? =some c0/\(c0.blk:Int)=i/\(c0.cell:Int)=j
 | [],k,c,h,_,_=>by simp at h
 | c1::r,k,c,h,h1,h2=>by
  have hk:=(List.getElem?_eq_some_iff.mp h).1
  rw[List.length_reverse,List.length_cons]at hk
  unfold F3
  by_cases hp:(c1.blk:Int)=i/\(c1.cell:Int)=j
  ·rw[if_pos hp]
   refine⟨r.length,c1,rfl,by omega,?_,hp⟩
   rw[List.reverse_cons,List.getElem?_append_right (by rw[List.length_reverse];exact Nat.le_refl _)]
   simp
  ·rw[if_neg hp]
   have hlt:k<r.length:=by
    rcases Nat.lt_or_ge k r.length with z | z
    ·exact z
    ·exfalso
     have:k=r.length:=by omega
     subst this
     rw[List.reverse_cons,List.getElem?_append_right (by rw[List.length_reverse];exact Nat.le_refl _)]at h
     simp at h
     subst h
     exact hp ⟨h1,h2⟩
   rw[List.reverse_cons,List.getElem?_append_left (by rw[List.length_reverse];exact hlt)]at h
   obtain⟨j0,c0,e1,e2,e3,e4⟩:=X8 h h1 h2
   refine⟨j0,c0,e1,e2,?_,e4⟩
   have:=NW e1
   rw[List.reverse_cons,List.getElem?_append_left (by rw[List.length_reverse];exact this)]
   exact e3
theorem X9{cs:List Ch}{k:Nat}{c:Ch}(h:cs[k]? =some c):∃ j0 c0,CA cs c.blk c.cell=some j0/\k<=j0/\cs[j0]? =some c0/\c0.blk=c.blk/\c0.cell=c.cell:=by
 obtain⟨j0,c0,e1,e2,e3,e4,e5⟩:=X8 (l:=cs.reverse) (i:=c.blk) (j:=c.cell) (by rw[List.reverse_reverse];exact h) rfl rfl
 rw[List.reverse_reverse]at e3
 exact⟨j0,c0,e1,e2,e3,by omega,by omega⟩
def JC(cs:List Ch)(outs:Int->Bool):Prop:=∀ (k:Nat) (c:Ch),cs[k]? =some c->outs k=true->∀ y∈c.nd,outs y=true
theorem tQ{cs:List Ch}{outs:Int->Bool}(s:Pass)(k:Nat)(h:(CB cs outs s k).out=s.out++[k]):∀ c,cs[k]? =some c->∀ y∈c.nd,(outs y || s.gone y)=true:=λc ec y hy=>by
 unfold CB at h
 split at h
 ·exact absurd h (by intro z;have:=congrArg List.length z;simp at this)
 ·rw[ec]at h
  simp only[Option.bind_some]at h
  split at h
  ·rename_i hn
   have:=List.find?_eq_none.mp hn y hy
   cases e:(outs y || s.gone y)with
   | true=>rfl
   | false =>
    have this:¬ (!(outs y || s.gone y))=true:=this
    rw[e]at this
    exact absurd rfl this
  ·exact absurd h (by intro z;have:=congrArg List.length z;simp at this)
theorem YA{cs:List Ch}{outs:Int->Bool}:∀ (l:List Nat) (s:Pass),(∀ k∈s.out,∀ c,cs[k]? =some c->∀ y∈c.nd,(outs y || s.gone y)=true)->∀ k∈(l.foldl (CB cs outs) s).out,∀ c,cs[k]? =some c->∀ y∈c.nd,(outs y || (l.foldl (CB cs outs) s).gone y)=true
 | [],s,h=>h
 | k::l,s,h=>by
  rw[List.foldl_cons]
  refine YA l _ ?_
  rcases X7 (cs:=cs) (outs:=outs) s k with e | ⟨ho,e⟩ | ⟨l0,e⟩
  ·rw[e];exact h
  ·have hl:=tQ (cs:=cs) (outs:=outs) s k (by rw[e])
   rw[e]
   intro k' hk' c ec y hy
   rcases List.mem_append.mp hk' with hk' | hk'
   ·have:=h k' hk' c ec y hy
    rw[<-Bool.or_assoc,this,Bool.true_or]
   ·rw[List.mem_singleton.mp hk']at ec
    have:=hl c ec y hy
    rw[<-Bool.or_assoc,this,Bool.true_or]
  ·rw[e];exact h
theorem YB{cs:List Ch}{outs:Int->Bool}(cut:JC cs outs)(b:Nat):JC cs (BU cs outs b):=λk c ec ho y hy=>by
 obtain⟨_,_,hg⟩:=LL (cs:=cs) (outs:=outs) (b:=b)
 unfold BU at ho ⊢
 rw[Bool.or_eq_true]at ho
 rcases ho with ho | ho
 ·rw[cut k c ec ho y hy,Bool.true_or]
 ·obtain⟨k',hk',e⟩:=List.any_eq_true.mp ho
  have e:(k:Int)=k':=by simpa using e
  have e:k=k':=by omega
  subst e
  have:=YA (cs:=cs) (outs:=outs) (BM cs b) ⟨[],[],λ_=>false⟩ (by simp) k hk' c ec y hy
  rw[<-hg y]
  exact this
theorem QN{cs:List Ch}{outs:Int->Bool}{b k:Nat}:BU cs outs b k=true↔outs k=true\/k∈(outcome cs outs (λ_=>false) b).out:=by
 unfold BU
 rw[Bool.or_eq_true,List.any_eq_true]
 constructor
 ·rintro (h | ⟨k',hk',e⟩)
  ·exact .inl h
  ·have e:(k:Int)=k':=by simpa using e
   have e:k=k':=by omega
   exact .inr (e ▸ hk')
 ·rintro (h | h)
  ·exact .inl h
  ·exact .inr ⟨k,h,by simp⟩
def JD(cs:List Ch)(outs:Int->Bool)(rows:List (List V)):Prop:=∀ (b:Nat) (row:List V),rows[b]? =some row->DO cs outs b row=row
theorem tR{cs:List Ch}{outs:Int->Bool}{b:Nat}{row:List V}{rows:List (List V)}(er:rows[b]? =some row)(sh:JD cs outs rows):JD cs (BU cs outs b) (rows.set b (DO cs (BU cs outs b) b row)):=λb' row' e=>by
 obtain⟨_,r2,_⟩:=LL (cs:=cs) (outs:=outs) (b:=b)
 have hb:=(List.getElem?_eq_some_iff.mp er).1
 rw[List.getElem?_set]at e
 by_cases z:b=b'
 ·subst z
  rw[if_pos rfl,if_pos hb]at e
  cases e
  rw[LM,LM]
  refine List.ext_getElem? λj=> ?_
  rw[LN,LN,Option.map_map]
  cases row[j]? with
  | none=>rfl
  | some v =>
   cases EN cs ((BM cs b).filter λ(k:Nat)=>BU cs outs b k) j<;>rfl
 ·rw[if_neg z]at e
  have h:=sh b' row' e
  rw[LM]at h ⊢
  rw[<-h]
  have:((BM cs b').filter λ(k:Nat)=>BU cs outs b k)=(BM cs b').filter λ(k:Nat)=>outs k:=by
   refine List.filter_congr λk hk=> ?_
   rw[Bool.eq_iff_iff,QN]
   refine⟨λy=>y.elim id λy=> ?_,.inl⟩
   obtain⟨c1,e1,b1⟩:=GY.mp hk
   obtain⟨c2,e2,b2⟩:=GY.mp (r2 k y).2
   rw[e1]at e2;cases e2
   exact absurd (b2.symm.trans b1) z
  rw[this,h,h]
end L2
namespace L2
theorem YC{i j:Int}:∀ {l:List Ch} {k:Nat},F3 l i j=some k->∃ c,l.reverse[k]? =some c/\(c.blk:Int)=i/\(c.cell:Int)=j
 | [],k,h=>by cases h
 | c1::r,k,h=>by
  unfold F3 at h
  by_cases hp:(c1.blk:Int)=i/\(c1.cell:Int)=j
  ·rw[if_pos hp]at h
   cases h
   refine⟨c1,?_,hp⟩
   rw[List.reverse_cons,List.getElem?_append_right (by rw[List.length_reverse];exact Nat.le_refl _)]
   simp
  ·rw[if_neg hp]at h
   obtain⟨c,e,h2⟩:=YC h
   refine⟨c,?_,h2⟩
   have:=NW h
   rw[List.reverse_cons,List.getElem?_append_left (by rw[List.length_reverse];exact this)]
   exact e
theorem HM{cs:List Ch}{i j:Int}{k:Nat}(h:CA cs i j=some k):∃ c,cs[k]? =some c/\(c.blk:Int)=i/\(c.cell:Int)=j:=by
 obtain⟨c,e,h2⟩:=YC (l:=cs.reverse) h
 rw[List.reverse_reverse]at e
 exact⟨c,e,h2⟩
theorem tS{cs:List Ch}{outs:Int->Bool}{c:Ch}(cut:JC cs outs)(ho:outs cs.length=false):JC (cs++[c]) outs:=λk c' e h y hy=>by
 rcases Nat.lt_or_ge k cs.length with z | z
 ·rw[List.getElem?_append_left z]at e
  exact cut k c' e h y hy
 ·have:=(List.getElem?_eq_some_iff.mp e).1
  rw[List.length_append,List.length_singleton]at this
  have:k=cs.length:=by omega
  rw[this,ho]at h
  cases h
theorem YD{cs cs':List Ch}{outs:Int->Bool}:∀ (l:List Nat) (r:List V),(∀ k∈l,cs[k]? =cs'[k]?)->l.foldl (DN cs outs) r=l.foldl (DN cs' outs) r
 | [],_,_=>rfl
 | k::l,r,h=>by
  rw[List.foldl_cons,List.foldl_cons]
  have e:DN cs outs r k=DN cs' outs r k:=by
   unfold DN
   rw[h k (List.mem_cons_self ..)]
  rw[e]
  exact YD l _ λk' hk=>h k' (List.mem_cons_of_mem _ hk)
theorem tT{cs:List Ch}{outs:Int->Bool}{c:Ch}{rows:List (List V)}(sh:JD cs outs rows)(ho:outs cs.length=false):JD (cs++[c]) outs rows:=λb row e=>by
 have h:=sh b row e
 unfold DO at h ⊢
 have h':List.foldl (DN (cs++[c]) outs) row (BM cs b)=row:=by
  rw[YD (cs':=cs) (BM cs b) row λk hk=>by
   obtain⟨c',e',_⟩:=GY.mp hk
   rw[List.getElem?_append_left (List.getElem?_eq_some_iff.mp e').1]]
  exact h
 rw[XS]
 split
 ·rw[List.foldl_append,h',List.foldl_cons,List.foldl_nil]
  unfold DN
  rw[ho]
  rfl
 ·exact h'
theorem tU{cs:List Ch}{outs:Int->Bool}{m:Nat}{c:Ch}(ec:cs[m]? =some c)(ho:outs m=false)(low:∀ k:Nat,k<m->outs k=true)(hn:∀ x∈c.nd,0<=x/\x<m):∃ r,(outcome cs outs (λ_=>false) c.blk).out=m::r:=by
 have hm:m∈BM cs c.blk:=GY.mpr ⟨c,ec,rfl⟩
 obtain⟨l1,l2,e⟩:=List.append_of_mem hm
 have rise:=QK cs c.blk
 rw[e]at rise
 have h1:∀ k∈l1,outs k=true:=λk hk=>low k ((List.pairwise_append.mp rise).2.2 k hk m (List.mem_cons_self ..))
 have s1:∀ (l:List Nat) (s:Pass),(∀ k∈l,outs k=true)->l.foldl (CB cs outs) s=s:=λl=>by
  induction l with
  | nil=>exact λ_ _=>rfl
  | cons k l ih =>
   intro s h
   rw[List.foldl_cons]
   have:CB cs outs s k=s:=by
    unfold CB
    rw[h k (List.mem_cons_self ..),Bool.true_or,if_pos rfl]
   rw[this]
   exact ih s λk' hk=>h k' (List.mem_cons_of_mem _ hk)
 unfold outcome
 rw[e,List.foldl_append,s1 l1 _ h1,List.foldl_cons]
 have st:CB cs outs ⟨[],[],λ_=>false⟩ m=⟨[m],[],λx=>x ==(m:Int)⟩:=by
  unfold CB
  rw[ho,ec,Option.bind_some,tO λx hx=>by
   have:=hn x hx
   have e:x=((x.toNat:Nat):Int):=by omega
   have:=low x.toNat (by omega)
   rw[<-e]at this
   rw[this,Bool.true_or]]
  rfl
 rw[st]
 obtain⟨l',h2,_⟩:=QL (cs:=cs) (outs:=outs) l2 ⟨[m],[],λx=>x ==(m:Int)⟩
 exact⟨l',h2⟩
theorem tV{cs:List Ch}{outs:Int->Bool}{rows:List (List V)}{b j n0:Nat}{row:List V}(sh:JD cs outs rows)(er:rows[b]? =some row)(hj:j<row.length)(all:∀ k:Nat,k<cs.length->outs k=true)(hn:CA cs b j=some n0):∃ c,cs[n0]? =some c/\row[j]? =some c.val:=by
 have h:=sh b row er
 rw[LM]at h
 have hf:((BM cs b).filter λ(k:Nat)=>outs k)=BM cs b:=List.filter_eq_self.mpr λk hk=>by
  obtain⟨c,e,_⟩:=GY.mp hk
  exact all k (List.getElem?_eq_some_iff.mp e).1
 rw[hf]at h
 have hj2:=congrArg (·[j]?) h
 simp only[LN]at hj2
 obtain⟨c,ec,hb,hc⟩:=HM hn
 have m0:n0∈BM cs b:=GY.mpr ⟨c,ec,by omega⟩
 cases el:EN cs (BM cs b) j with
 | none=>exact absurd (show c.cell=j by omega) (N1.lastAt_no el n0 m0 c ec)
 | some c' =>
  obtain⟨k',hk',ec',hj',mx⟩:=N1 el
  obtain⟨c2,e2,b2⟩:=GY.mp hk'
  rw[ec']at e2;cases e2
  obtain⟨j0,c0,e1,e3,e4,e5,e6⟩:=X9 ec'
  rw[b2,hj',hn]at e1
  cases e1
  have:k'=n0:=by
   rcases Nat.lt_or_ge k' n0 with z | z
   ·exact absurd (show c.cell=j by omega) (mx (QK cs b) n0 m0 z c ec)
   ·omega
  subst this
  rw[ec]at ec';cases ec'
  refine⟨c,ec,?_⟩
  rw[el]at hj2
  rw[<-hj2,List.getElem?_eq_getElem hj]
  rfl
end L2
namespace L2
abbrev DF(a:Ad):Addr:=a "Hold"
def BX(c p m:Int):Int:=((c+p / 3) % p) * ((c+p / 3) % p) % p * ((c+p / 3) % p) % p % m
def HN(ns:List Int)(k:Nat):Int:=ns.getD k 0
def BZ(K:W.Frag)(a:Ad):Sp:=λvs H Q _=>∃ c p m:Int,vs=[.int c,.int p,.int m]/\0<p/\p<=20000/\0<m/\Q (.int (BX c p m)) H
theorem DA{K:W.Frag}{a:Ad}{c p m:Int}{H:Hp}{Q:VK}{E:XK}:BZ K a [.int c,.int p,.int m] H Q E=(0<p/\p<=20000/\0<m/\Q (.int (BX c p m)) H):=by simp[BZ,and_assoc]
theorem DP{c p m:Int}(h:0<m):0<=BX c p m:=Int.emod_nonneg _ (by omega)
theorem E4{c p m:Int}(h:0<m):BX c p m<m:=Int.emod_lt_of_pos _ h
def F5(K:W.Frag)(a:Ad):Sp:=λvs H Q _=>∃ (s:Addr) (ns:List Int) (k:Nat),vs=[.ref s,.int k]/\SqL K H s (ns.map V.int)/\ns.length<=1000/\Q (.int (HN ns k)) H
theorem YE{K:W.Frag}{a:Ad}{s:Addr}{k:Int}{H:Hp}{Q:VK}{E:XK}:F5 K a [.ref s,.int k] H Q E=∃ (ns:List Int) (n:Nat),k=n/\SqL K H s (ns.map V.int)/\ns.length<=1000/\Q (.int (HN ns n)) H:=by simp[F5,and_assoc]
abbrev TB(K:W.Frag)(a:Ad):Prop:=XY K (DF a) (a "Change")
abbrev AY(a:Ad)(H:Hp)(A:BA)(w:Nat)(rows:List (List V))(n:Nat)(cs:List Ch)(outs:Int->Bool):Prop:=BookAt a (DF a) H A w rows n cs outs
def JE:Option Nat->V
 | none=>.non
 | some k=>.int k
def BI(n:Nat)(outs:Int->Bool):List Nat:=(List.range n).filter λ(k:Nat)=> !outs k
def CC(l:List Nat):List V:=l.map λ(k:Nat)=>V.int k
abbrev D6(rows:List (List V))(w:Nat)(i j:Int):Prop:=0<=i/\i<rows.length/\0<=j/\j<w
def LO(K:W.Frag)(a:Ad):Sp:=λvs H Q _=>∃ x dx pl v nt,vs=[.ref x,.ref pl,v,.ref nt]/\TB K a/\H x=some (.ins (a "Change") dx [])/\Q .non (upd H x (.ins (a "Change") dx (DW pl v nt)))
def HP(K:W.Frag)(a:Ad):Sp:=λvs H Q _=>∃ (b gp cl dx:Addr) (w:Nat) (rows:List (List V)) (n:Nat),vs=[.ref b,.ref gp]/\TB K a/\CW K a/\PlankAt a H gp cl w rows n/\H b=some (.ins (DF a) dx []) ∧
 ∀ (m mi lt ou:Addr) (ls:List Addr) (H':Hp),H m=none->H mi=none->H lt=none->H ou=none->(∀ l∈ls,H l=none)->AY a H' ⟨b,gp,m,mi,lt,ou,ls,cl⟩ w rows n [] (λ_=>false)->SameBut (· =b) H H'->Q .non H'
def LP(K:W.Frag)(a:Ad):Sp:=λvs H Q _=>∃ (nl:Addr) (ns:List Int) (o:Option Nat),vs=[.ref nl,JE o]/\SqL K H nl (ns.map V.int)/\ns.length<=60 ∧
 ∀ (t:Addr) (ks:List Int) (H':Hp),Same H H'->H' t=some (.tup (ks.map V.int))->ks.Pairwise (· <·)->(∀ x,x∈ks↔x∈ns\/∃ k:Nat,o=some k/\x=k)->ks.length<=ns.length+1->Q (.ref t) H'
def LQ(K:W.Frag)(a:Ad):Sp:=λvs H Q E=>∃ (A:BA) (w:Nat) (rows:List (List V)) (n:Nat) (cs:List Ch) (outs:Int->Bool) (pl:Addr) (i j:Int),vs=[.ref A.b,.ref pl]/\TB K a/\CW K a/\AY a H A w rows n cs outs/\H pl=some (.tup [.int i,.int j]) ∧
 (D6 rows w i j->Q .non H)/\(¬ D6 rows w i j->E (.ref (a "NoBlock")) none H)
def HQ(K:W.Frag)(a:Ad):Sp:=λvs H Q E=>∃ (A:BA) (w:Nat) (rows:List (List V)) (n:Nat) (cs:List Ch) (outs:Int->Bool) (pl:Addr) (i j:Int),vs=[.ref A.b,.ref pl]/\TB K a/\CW K a/\AY a H A w rows n cs outs/\H pl=some (.tup [.int i,.int j]) ∧
 (D6 rows w i j->Q (JE (CA cs i j)) H)/\(¬ D6 rows w i j->E (.ref (a "NoBlock")) none H)
abbrev known(cs:List Ch)(x:Int):Prop:=0<=x/\x<cs.length
def LR(K:W.Frag)(a:Ad):Sp:=λvs H Q E=>∃ (A:BA) (w:Nat) (rows:List (List V)) (n:Nat) (cs:List Ch) (outs:Int->Bool) (nl:Addr) (ns:List Int),vs=[.ref A.b,.ref nl]/\TB K a/\AY a H A w rows n cs outs/\SqL K H nl (ns.map V.int) ∧
 ((∀ x∈ns,known cs x)->Q .non H)/\((∃ x∈ns,¬ known cs x)->E (.ref (a "NoChange")) none H)
def LS(K:W.Frag)(a:Ad):Sp:=λvs H Q E=>∃ (A:BA) (w:Nat) (rows:List (List V)) (n:Nat) (cs:List Ch) (outs:Int->Bool) (pl nl:Addr) (v:V) (ns:List Int) (i j:Int),vs=[.ref A.b,.ref pl,v,.ref nl]/\TB K a/\CW K a/\AY a H A w rows n cs outs/\H pl=some (.tup [.int i,.int j])/\SqL K H nl (ns.map V.int)/\ns.length<=60/\cs.length<990 ∧
 (D6 rows w i j->(∀ x∈ns,known cs x)->∀ (nd:List Int) (H':Hp),nd.Pairwise (· <·)->(∀ x,x∈nd↔x∈ns\/∃ k:Nat,CA cs i j=some k/\x=k)->AY a H' A w rows n (cs++[⟨i.toNat,j.toNat,v,nd⟩]) outs->SameBut A.F H H'->Q (.int cs.length) H') ∧
 (¬ D6 rows w i j->E (.ref (a "NoBlock")) none H)/\(D6 rows w i j->(∃ x∈ns,¬ known cs x)->E (.ref (a "NoChange")) none H)
def EC(K:W.Frag)(a:Ad):Sp:=λvs H Q _=>∃ (A:BA) (w:Nat) (rows:List (List V)) (n:Nat) (cs:List Ch) (outs:Int->Bool),vs=[.ref A.b]/\TB K a/\AY a H A w rows n cs outs ∧
 ∀ (l:Addr) (H':Hp),H l=none->Same H H'->H' l=some (.lst (CC (BI cs.length outs)))->Q (.ref l) H'
def QQ:Option Int->V
 | none=>.non
 | some k=>.int k
abbrev B0(kvs:List (AN × V))(x:Int):Bool:=(AZ kvs (.inl x)).isSome
def LT(K:W.Frag)(a:Ad):Sp:=λvs H Q _=>∃ (A:BA) (w:Nat) (rows:List (List V)) (n:Nat) (cs:List Ch) (outs:Int->Bool) (k:Nat) (c:Ch) (g:Addr) (kvg:List (AN × V)),vs=[.ref A.b,.int k,.ref g]/\TB K a/\AY a H A w rows n cs outs/\cs[k]? =some c/\H g=some (.dK kvg) ∧
 Q (QQ (HL c.nd λx=>outs x || B0 kvg x)) H
def HR(K:W.Frag)(a:Ad):Sp:=λvs H Q _=>∃ (A:BA) (w:Nat) (rows:List (List V)) (n:Nat) (cs:List Ch) (outs:Int->Bool) (b:Nat) (tk:Addr) (kvt:List (AN × V)),vs=[.ref A.b,.int b,.ref tk]/\TB K a/\AY a H A w rows n cs outs/\b<rows.length/\H tk=some (.dK kvt)/\kvt.length<=1000 ∧
 ∀ (t ol hl:Addr) (H':Hp),H ol=none->H hl=none->ol≠hl->Same H H'->ToldAt H' t ol hl (outcome cs outs (B0 kvt) b).out (outcome cs outs (B0 kvt) b).held->Q (.ref t) H'
def LU(K:W.Frag)(a:Ad):Sp:=λvs H Q _=>∃ (A:BA) (w:Nat) (rows:List (List V)) (n:Nat) (cs:List Ch) (outs:Int->Bool) (b:Nat) (vl:Addr) (row:List V),vs=[.ref A.b,.ref vl,.int b]/\TB K a/\AY a H A w rows n cs outs/\b<rows.length/\H vl=some (.lst row)/\row.length=w ∧
 ∀ (l:Addr) (H':Hp),H l=none->Same H H'->H' l=some (.lst (DO cs outs b row))->Q (.ref l) H'
def HS(K:W.Frag)(a:Ad):Sp:=λvs H Q E=>∃ (A:BA) (w:Nat) (rows:List (List V)) (n:Nat) (cs:List Ch) (outs:Int->Bool) (b:Int),vs=[.ref A.b,.int b]/\TB K a/\CW K a/\AY a H A w rows n cs outs ∧
 (∀ (b':Nat) (row:List V) (t ol hl:Addr) (H':Hp),b=b'->rows[b']? =some row->H ol=none->H hl=none->ol≠hl->ToldAt H' t ol hl (outcome cs outs (λ_=>false) b').out (outcome cs outs (λ_=>false) b').held →
  AY a H' A w (rows.set b' (DO cs (BU cs outs b') b' row)) (n+1) cs (BU cs outs b')->SameBut (λx=>A.F x\/x=A.gp) H H'->Q (.ref t) H') ∧
 (b<0\/rows.length<=b->E (.ref (a "NoBlock")) none H)
def JF(cs:List Ch)(rows:List (List V))(i j:Int):Option V:=match CA cs i j with
 | some k=>(cs[k]?).map (·.val)
 | none=>(rows[i.toNat]?).bind λr=>r[j.toNat]?
def F6(K:W.Frag)(a:Ad):Sp:=λvs H Q E=>∃ (A:BA) (w:Nat) (rows:List (List V)) (n:Nat) (cs:List Ch) (outs:Int->Bool) (pl:Addr) (i j:Int),vs=[.ref A.b,.ref pl]/\TB K a/\CW K a/\AY a H A w rows n cs outs/\H pl=some (.tup [.int i,.int j]) ∧
 (D6 rows w i j->∀ (v:V) (H':Hp),JF cs rows i j=some v->Same H H'->Q v H')/\(¬ D6 rows w i j->E (.ref (a "NoBlock")) none H)
def LV(K:W.Frag)(a:Ad):Sp:=λvs H Q _=>∃ (A:BA) (w:Nat) (rows:List (List V)) (n:Nat) (cs:List Ch) (outs:Int->Bool) (k:Nat) (c:Ch),vs=[.ref A.b,.int k]/\TB K a/\AY a H A w rows n cs outs/\cs[k]? =some c/\Q (.int c.blk) H
def HU(K:W.Frag)(a:Ad):Sp:=λvs H Q _=>∃ (A:BA) (w:Nat) (rows:List (List V)) (n:Nat) (cs:List Ch) (outs:Int->Bool),vs=[.ref A.b]/\TB K a/\CW K a/\AY a H A w rows n cs outs/\Q (.int rows.length) H
def CH(cs:List Ch)(outs:Int->Bool)(b:Nat):Nat:=(outcome cs outs (λ_=>false) b).out.length
def CT(f:Nat->Nat):Nat->Nat × Nat
 | 0=>(0,0)
 | m+1=>if(CT f m).2<f m then(m,f m)else CT f m
def DX(cs:List Ch)(outs:Int->Bool):Nat:=match BI cs.length outs with
 | []=>0
 | k::_=>match cs[k]? with
  | some c=>c.blk
  | none=>0
def D7(kind:Nat)(cs:List Ch)(outs:Int->Bool)(m t:Nat):Nat:=match kind with
 | 0=>DX cs outs
 | 1=>(CT (CH cs outs) m).1
 | _=>t % m
def DG(kind m:Nat)(cs:List Ch)(outs:Int->Bool)(t:Nat):Nat->Int->Bool
 | 0=>outs
 | i+1=>BU cs (DG kind m cs outs t i) (D7 kind cs (DG kind m cs outs t i) m (t+i))
def F7(kind m:Nat)(cs:List Ch)(outs:Int->Bool)(t i:Nat):Nat:=D7 kind cs (DG kind m cs outs t i) m (t+i)
def E5(kind m:Nat)(cs:List Ch)(outs:Int->Bool)(t:Nat)(rows:List (List V)):Nat->List (List V)
 | 0=>rows
 | i+1=>(E5 kind m cs outs t rows i).set (F7 kind m cs outs t i) (DO cs (DG kind m cs outs t (i+1)) (F7 kind m cs outs t i) ((E5 kind m cs outs t rows i).getD (F7 kind m cs outs t i) []))
def F8(kind m:Nat)(cs:List Ch)(outs:Int->Bool)(t N:Nat):List Nat:=(List.range N).map (F7 kind m cs outs t)
def tW(kind m:Nat)(cs:List Ch)(outs:Int->Bool)(t N:Nat):Prop:=(∀ i,i<N->BI cs.length (DG kind m cs outs t i)≠[])/\BI cs.length (DG kind m cs outs t N)=[]
def BroomAt(a:Ad)(H:Hp)(x:Addr)(kind t:Nat):Prop:=match kind with
 | 0=>∃ dx,H x=some (.ins (a "Broom") dx [])
 | 1=>∃ dx,H x=some (.ins (a "Fullest") dx [])
 | _=>∃ dx,H x=some (.ins (a "Round") dx [("turns",.int t)])
structure TX(K:W.Frag)(a:Ad):Prop where
 cl:Cls K (a "Round")
 nT:NoAttr K (a "Round") "turns"
 ty0:∀ {H:Hp} {p dx:Addr} {fs:List (Str × V)},H p=some (.ins (a "Broom") dx fs)->DS K H (.ref p) (.ref (a "Broom"))
 ty1:∀ {H:Hp} {p dx:Addr} {fs:List (Str × V)},H p=some (.ins (a "Fullest") dx fs)->DS K H (.ref p) (.ref (a "Fullest"))
 ty2:∀ {H:Hp} {p dx:Addr} {fs:List (Str × V)},H p=some (.ins (a "Round") dx fs)->DS K H (.ref p) (.ref (a "Round"))
 k0:W.kitOne K (.ref (a "Broom")) (.ref (a "Broom"))=some true
 k1:W.kitOne K (.ref (a "Fullest")) (.ref (a "Broom"))=some true
 k2:W.kitOne K (.ref (a "Round")) (.ref (a "Broom"))=some true
abbrev D8(K:W.Frag)(a:Ad):Prop:=TB K a/\CW K a/\TX K a
def LW(K:W.Frag)(a:Ad):Sp:=λvs H Q _=>∃ x dx,vs=[.ref x]/\TX K a/\H x=some (.ins (a "Round") dx [])/\Q .non (upd H x (.ins (a "Round") dx [("turns",.int 0)]))
def JG(K:W.Frag)(a:Ad):Sp:=λvs H Q _=>∃ (x:V) (A:BA) (w:Nat) (rows:List (List V)) (n:Nat) (cs:List Ch) (outs:Int->Bool),vs=[x,.ref A.b]/\TB K a/\AY a H A w rows n cs outs/\BI cs.length outs≠[]/\∀ H',Same H H'->Q (.int (DX cs outs)) H'
def JH(K:W.Frag)(a:Ad):Sp:=λvs H Q _=>∃ (x:V) (A:BA) (w:Nat) (rows:List (List V)) (n:Nat) (cs:List Ch) (outs:Int->Bool),vs=[x,.ref A.b]/\TB K a/\CW K a/\AY a H A w rows n cs outs/\rows.length<=1000/\∀ H',Same H H'->Q (.int (CT (CH cs outs) rows.length).1) H'
def JI(K:W.Frag)(a:Ad):Sp:=λvs H Q _=>∃ (x dx:Addr) (t:Nat) (A:BA) (w:Nat) (rows:List (List V)) (n:Nat) (cs:List Ch) (outs:Int->Bool),vs=[.ref x,.ref A.b]/\D8 K a/\AY a H A w rows n cs outs/\1<=rows.length/\H x=some (.ins (a "Round") dx [("turns",.int t)])/\Q (.int (t % rows.length:Nat)) (upd H x (.ins (a "Round") dx [("turns",.int (t+1:Nat))]))
abbrev BA.W(A:BA)(x:Addr):Prop:=A.F x\/x=A.gp
def JJ(K:W.Frag)(a:Ad):Sp:=λvs H Q _=>∃ (br:Addr) (kind t:Nat) (A:BA) (w:Nat) (rows:List (List V)) (n:Nat) (cs:List Ch) (outs:Int->Bool),vs=[.ref A.b,.ref br]/\D8 K a/\AY a H A w rows n cs outs/\1<=rows.length/\rows.length<=10/\cs.length<=90/\BroomAt a H br kind t/\kind<=2 ∧
 ∀ (l:Addr) (N:Nat) (H':Hp),tW kind rows.length cs outs t N->N<=cs.length * rows.length+rows.length->H l=none->H' l=some (.lst (CC (F8 kind rows.length cs outs t N)))->AY a H' A w (E5 kind rows.length cs outs t rows N) (n+N) cs (DG kind rows.length cs outs t N)->BroomAt a H' br kind (t+N)->SameBut (λx=>A.W x\/x=br) H H'->Q (.ref l) H'
def GoodV:Nat->Hp->V->Prop
 | 0,_,_=>False
 | _+1,_,.int _=>True
 | _+1,_,.non=>True
 | _+1,_,.str z=>PyData.strOk z=true
 | n+1,H,.ref p=>∃ xs,H p=some (.tup xs)/\xs.length<=100/\∀ v∈xs,GoodV n H v
 | _,_,_=>False
def good7(H:Hp)(rows:List (List V)):Prop:=∀ r∈rows,∀ v∈r,GoodV 7 H v
def GA(H:Hp)(R:Addr)(ra:List Addr)(rows:List (List V)):Prop:=H R=some (.lst (ra.map V.ref))/\Paired (λl r=>H l=some (.lst r)) ra rows/\ra.Nodup/\R∉ra
def HV(K:W.Frag)(a:Ad):Sp:=λvs H Q _=>∃ c:Int,vs=[.int c]/\∀ v H',Same H H'->GoodV 7 H' v->Q v H'
def DY(K:W.Frag)(a:Ad)(n:Nat):Sp:=λvs H Q _=>∃ x y,vs=[x,y]/\((x=y/\GoodV n H x)\/∃ p q xs m,n=m+1/\x=.ref p/\y=.ref q/\H p=some (.lst xs)/\H q=some (.lst xs)/\xs.length<=2000/\∀ v∈xs,GoodV m H v) ∧
 ∀ H',Same H H'->Q (.bl true) H'
def JK(K:W.Frag)(a:Ad):Sp:=λvs H Q _=>∃ (c:Int) (z:Addr) (m w:Nat),vs=[.int c,.ref z]/\CW K a/\H z=some (.tup [.int m,.int w])/\1<=m/\m<=8/\1<=w/\w<=5 ∧
 ∀ (t p cl R:Addr) (ra:List Addr) (rows:List (List V)) (n:Nat) (H':Hp),Same H H'->H' t=some (.tup [.ref p,.ref R])->PlankAt a H' p cl w rows n->GA H' R ra rows->good7 H' rows->rows.length=m->n<=3->H p=none->H cl=none->H R=none->(∀ x∈ra,H x=none/\x≠cl)->R≠cl->Q (.ref t) H'
def LX(K:W.Frag)(a:Ad):Sp:=λvs H Q _=>∃ (c:Int) (z:Addr) (m w cnt:Nat),vs=[.int c,.ref z,.int cnt]/\H z=some (.tup [.int m,.int w])/\1<=m/\1<=w/\cnt<=200 ∧
 ∀ (t pl nl:Addr) (i j:Nat) (v:V) (ns:List Int) (H':Hp),Same H H'->H' t=some (.tup [.ref pl,v,.ref nl])->H' pl=some (.tup [.int i,.int j])->i<m->j<w->GoodV 7 H' v->H nl=none->H' nl=some (.lst (ns.map V.int))->(∀ x∈ns,0<=x/\x<cnt)->ns.length<=4->Q (.ref t) H'
def tX(F:Addr->Prop)(H:Hp)(t:Addr)(c:Ch):Prop:=∃ (pl nl:Addr) (ns:List Int),H t=some (.tup [.ref pl,c.val,.ref nl])/\H pl=some (.tup [.int c.blk,.int c.cell])/\H nl=some (.lst (ns.map V.int))/\¬ F nl/\(∀ x∈ns,x∈c.nd)/\ns.length<=10
def OwnL(F:Addr->Prop)(H:Hp)(L:Addr)(cs:List Ch):Prop:=∃ tl:List Addr,H L=some (.lst (tl.map V.ref))/\Paired (tX F H) tl cs
structure SideAt(F:Addr->Prop)(H:Hp)(sd L go:Addr)(cs:List Ch)(outs:Int->Bool):Prop where
 d:∃ kvs:List (AN × V),H sd=some (.dK kvs)/\AZ kvs (.inr "changes")=some (.ref L)/\AZ kvs (.inr "out")=some (.ref go)
 l:OwnL F H L cs
 g:∃ kvo:List (AN × V),H go=some (.dK kvo)/\(∀ x:Int,B0 kvo x=outs x)/\KeysOk kvo cs.length
def DH(cs:List Ch)(i j:Int):Option V:=(CA cs i j).bind λ(k:Nat)=>(cs[k]?).map (·.val)
def JL(d:HO)(cs:List Ch):Prop:=∃ kvs,(d=.dT kvs\/∃ o,d=.frz o (.dT kvs))/\(∀ i j:Int,AZ kvs [.inl i,.inl j]=DH cs i j)/\kvs.length<=cs.length/\∀ p∈kvs,∃ i j:Int,p.1=[.inl i,.inl j]
def QR(rows0:List (List V))(cs:List Ch)(rows:List (List V)):Prop:=rows.length=rows0.length/\∀ (b j:Nat),CA cs b j=none->(rows[b]?).bind (·[j]?)=(rows0[b]?).bind (·[j]?)
def JM(K:W.Frag)(a:Ad):Sp:=λvs H Q _=>∃ k:Nat,vs=[.int k]/\D8 K a/\∀ (x:Addr) (H':Hp),H x=none->Same H H'->BroomAt a H' x (min k 2) 0->Q (.ref x) H'
def HW(K:W.Frag)(a:Ad):Sp:=λvs H Q _=>∃ (A:BA) (w:Nat) (rows:List (List V)) (n:Nat) (cs:List Ch) (outs:Int->Bool) (b:Nat) (sd L go:Addr) (F:Addr->Prop),vs=[.ref A.b,.int b,.ref sd]/\D8 K a/\AY a H A w rows n cs outs/\b<rows.length/\JC cs outs/\cs.length<=90/\SideAt F H sd L go cs outs/\(∀ x,A.W x\/x=go->F x)/\¬ A.W sd/\¬ A.W L/\¬ A.W go/\sd≠go/\L≠go ∧
 ∀ (row:List V) (H':Hp),rows[b]? =some row->AY a H' A w (rows.set b (DO cs (BU cs outs b) b row)) (n+1) cs (BU cs outs b)->SideAt F H' sd L go cs (BU cs outs b)->SameBut (λx=>A.W x\/x=go) H H'->Q (.bl true) H'
structure WS where
 A:BA
 A':BA
 sd:Addr
 sd':Addr
 L:Addr
 L':Addr
 go:Addr
 go':Addr
 pd:Addr
def WS.B(S:WS)(x:Addr):Prop:=S.A.W x\/S.A'.W x\/x=S.L\/x=S.L'\/x=S.go\/x=S.go'\/x=S.pd
structure WS.Ap(S:WS):Prop where
 h:∀ x,S.A.W x->¬ S.A'.W x
 w:∀ x,x=S.sd\/x=S.sd'\/x=S.L\/x=S.L'\/x=S.go\/x=S.go'\/x=S.pd->¬ S.A.W x/\¬ S.A'.W x
 l:S.L≠S.L'/\S.L≠S.go/\S.L≠S.go'/\S.L'≠S.go/\S.L'≠S.go'/\S.go≠S.go'/\S.pd≠S.L/\S.pd≠S.L'/\S.pd≠S.go/\S.pd≠S.go'
 s:∀ x,x=S.sd\/x=S.sd'->¬ S.B x
structure HoldOk(H:Hp)(rows0 rows:List (List V))(cs:List Ch)(outs:Int->Bool):Prop where
 ct:JC cs outs
 sh:JD cs outs rows
 ba:QR rows0 cs rows
structure W26(a:Ad)(H:Hp)(S:WS)(w:Nat)(r0 r0' rows rows':List (List V))(n n':Nat)(cs:List Ch)(outs outs':Int->Bool):Prop where
 b0:AY a H S.A w rows n cs outs
 b1:AY a H S.A' w rows' n' cs outs'
 s0:SideAt S.B H S.sd S.L S.go cs outs
 s1:SideAt S.B H S.sd' S.L' S.go' cs outs'
 h0:HoldOk H r0 rows cs outs
 h1:HoldOk H r0' rows' cs outs'
 pl:∃ d,H S.pd=some d/\JL d cs
 gr:good7 H r0/\good7 H r0'
 gc:∀ c∈cs,GoodV 7 H c.val
 ap:S.Ap
 sz:1<=r0.length/\r0.length<=8/\r0'.length=r0.length/\1<=w/\w<=5
def LY(K:W.Frag)(a:Ad):Sp:=λvs H Q _=>∃ (hl sl z:Addr) (c:Int) (S:WS) (w:Nat) (r0 r0' rows rows':List (List V)) (n n':Nat) (cs:List Ch) (outs outs':Int->Bool),vs=[.ref hl,.ref sl,.int c,.ref z,.ref S.pd]/\D8 K a/\W26 a H S w r0 r0' rows rows' n n' cs outs outs'/\cs.length<80/\(∃ kvs,H S.pd=some (.dT kvs))/\H z=some (.tup [.int r0.length,.int w])/\H hl=some (.lst [.ref S.A.b,.ref S.A'.b])/\H sl=some (.lst [.ref S.sd,.ref S.sd'])/\¬ S.B hl/\¬ S.B sl ∧
 ∀ (rows2 rows2':List (List V)) (m m':Nat) (ch:Ch) (outs2 outs2':Int->Bool) (H':Hp),W26 a H' S w r0 r0' rows2 rows2' m m' (cs++[ch]) outs2 outs2'->(∃ kvs,H' S.pd=some (.dT kvs))->SameBut S.B H H'->Q (.bl true) H'
def LZ(K:W.Frag)(a:Ad):Sp:=λvs H Q _=>∃ (A:BA) (w:Nat) (r0 rows:List (List V)) (n:Nat) (cs:List Ch) (outs:Int->Bool) (t:Nat) (sd L go:Addr) (F:Addr->Prop),vs=[.ref A.b,.ref sd,.int t,.int rows.length]/\D8 K a/\AY a H A w rows n cs outs/\HoldOk H r0 rows cs outs/\cs.length<=90/\SideAt F H sd L go cs outs/\(∀ x,A.W x\/x=go->F x)/\¬ A.W sd/\¬ A.W L/\¬ A.W go/\sd≠go/\L≠go/\1<=rows.length/\rows.length<=8 ∧
 ∀ (rows':List (List V)) (n':Nat) (outs':Int->Bool) (H':Hp),AY a H' A w rows' n' cs outs'->HoldOk H' r0 rows' cs outs'->BI cs.length outs'=[]->SameBut (λx=>A.W x\/x=go) H H'->Q (.bl true) H'
def JN(K:W.Frag)(a:Ad):Sp:=λvs H Q _=>∃ (p cl R pd:Addr) (ra:List Addr) (w:Nat) (r0 rows:List (List V)) (n:Nat) (cs:List Ch) (outs:Int->Bool) (d:HO),vs=[.ref p,.ref R,.ref pd]/\CW K a/\PlankAt a H p cl w rows n/\GA H R ra r0/\HoldOk H r0 rows cs outs/\BI cs.length outs=[]/\H pd=some d/\JL d cs/\(∀ c∈cs,c.blk<r0.length/\c.cell<w)/\(∀ r∈r0,r.length=w)/\good7 H rows/\cs.length<=90/\r0.length<=100/\cl∉ra/\p∉ra ∧
 ∀ (d':HO) (H':Hp),H' pd=some d'->JL d' cs->SameBut (λx=>x=pd\/x∈ra) H H'->Q (.bl true) H'
def QS(K:W.Frag)(a:Ad):Sp:=λvs H Q _=>∃ (s:Addr) (ns:List Int),vs=[.ref s]/\D8 K a/\SqL K H s (ns.map V.int)/\ns.length<=63/\∀ H',Q (.bl true) H'
end L2
namespace L2
abbrev FK:=W.Frag
abbrev XE:=St->XK
theorem AF{f g:TS}(h:f=g)(D:Ends)(σ:St)(H:Hp):f D σ H=g D σ H:=by rw[h]
section
variable{K:FK}{a:Ad}{n:Nat}{E E1:XE}{D:Ends}{σ:St}{H:Hp}
def YF(K:FK)(a:Ad)(E E1:XE):TS:=(D1 K (AA 0) (tC (.int 0)) "turns")
theorem tY:type_of% (AF (YF.eq_1 K a E E1) D σ H):=rfl
def QT(K:FK)(a:Ad)(E:XE):TS:=(YF K a E E)
def YG(K:FK)(a:Ad)(E E1:XE):TS:=(D1 K (AA 0) (AA 1) "place")
theorem tZ:type_of% (AF (YG.eq_1 K a E E1) D σ H):=rfl
def YH(K:FK)(a:Ad)(E E1:XE):TS:=(D1 K (AA 0) (AA 2) "value")
theorem t3:type_of% (AF (YH.eq_1 K a E E1) D σ H):=rfl
def YI(K:FK)(a:Ad)(E E1:XE):TS:=(D1 K (AA 0) (AA 3) "needs")
theorem t4:type_of% (AF (YI.eq_1 K a E E1) D σ H):=rfl
def QU(K:FK)(a:Ad)(E:XE):TS:=(AL (YG K a E E) (AL (YH K a E E) (YI K a E E)))
def YJ(K:FK)(a:Ad)(E E1:XE):TS:=(A1 (EW (DB (AC (BK (C8 K) (AC (BJ K (AA 0) "made") AE)) AE)) (AW 0) (tB (GO (AA 0) (BJ K (AA 1) "outs"))) (AA 0) 1 [0]))
theorem t5:type_of% (AF (YJ.eq_1 K a E E1) D σ H):=rfl
def QV(K:FK)(a:Ad)(E:XE):TS:=(YJ K a E E)
def YK(K:FK)(a:Ad)(E E1:XE):TS:=(A1 (AH (AT K) (BJ K (AH (AT K) (BJ K (AA 0) "made") (AA 1)) "place") (tC (.int 0))))
theorem t6:type_of% (AF (YK.eq_1 K a E E1) D σ H):=rfl
def QW(K:FK)(a:Ad)(E:XE):TS:=(YK K a E E)
def YL(K:FK)(a:Ad)(E E1:XE):TS:=(IR (a "NoChange") E (AC (tC (.str "there is no change of such a number")) AE))
theorem YM:type_of% (AF (YL.eq_1 K a E E1) D σ H):=rfl
def YN(K:FK)(a:Ad)(E E1:XE):TS:=(BO (DZ (CD (IK GR FW (tC (.int 0)) (AA 2) (BK (C8 K) (AC (BJ K (AA 0) "made") AE))))) (YL K a E E) BR)
theorem YO:type_of% (AF (YN.eq_1 K a E E1) D σ H):=rfl
def YQ(K:FK)(a:Ad)(E E1:XE):TS:=(B7 (EK K (AA 1)) (AW 2) (YN K a E E))
theorem YR:type_of% (AF (YQ.eq_1 K a E E1) D σ H):=rfl
def QX(K:FK)(a:Ad)(E:XE):TS:=(YQ K a E E)
def YS(K:FK)(a:Ad)(E E1:XE):TS:=(A1 (BK (IT K) (AC (NM K (AA 0)) AE)))
theorem YT:type_of% (AF (YS.eq_1 K a E E1) D σ H):=rfl
def YU(K:FK)(a:Ad)(E E1:XE):TS:=(BO (CD (AH HE (AA 1) (tC .non))) (YS K a E E) BR)
theorem YV:type_of% (AF (YU.eq_1 K a E E1) D σ H):=rfl
def YW(K:FK)(a:Ad)(E E1:XE):TS:=(A1 (BK (IT K) (AC (NM K (AH (CU K) (BK (GS K) (AC (AA 0) AE)) (C1 (AC (AA 1) AE)))) AE)))
theorem YX:type_of% (AF (YW.eq_1 K a E E1) D σ H):=rfl
def N2(K:FK)(a:Ad)(E:XE):TS:=(AL (YU K a E E) (YW K a E E))
def YY(K:FK)(a:Ad)(E E1:XE):TS:=(A1 (AA 3))
theorem QY:type_of% (AF (YY.eq_1 K a E E1) D σ H):=rfl
def YZ(K:FK)(a:Ad)(E E1:XE):TS:=(BO (KU (tB (GO (AA 3) (BJ K (AA 0) "outs"))) (tB (GO (AA 3) (AA 2)))) (YY K a E E) BR)
theorem QZ:type_of% (AF (YZ.eq_1 K a E E1) D σ H):=rfl
def Y2(K:FK)(a:Ad)(E E1:XE):TS:=(B7 (EK K (BJ K (AH (AT K) (BJ K (AA 0) "made") (AA 1)) "needs")) (AW 3) (YZ K a E E))
theorem Q0:type_of% (AF (Y2.eq_1 K a E E1) D σ H):=rfl
def Y3(K:FK)(a:Ad)(E E1:XE):TS:=(A1 (tC .non))
theorem Q1:type_of% (AF (Y3.eq_1 K a E E1) D σ H):=rfl
def Q2(K:FK)(a:Ad)(E:XE):TS:=(AL (Y2 K a E E) (Y3 K a E E))
def Y4(K:FK)(a:Ad)(E E1:XE):TS:=(A9 (BK (GS K) (AC (AA 1) AE)) (AW 3))
theorem Q3:type_of% (AF (Y4.eq_1 K a E E1) D σ H):=rfl
def Y5(K:FK)(a:Ad)(E E1:XE):TS:=(A9 (BJ K (AH (AT K) (BJ K (AA 0) "made") (AA 4)) "value") (II (AA 3) (AH (AT K) (BJ K (AH (AT K) (BJ K (AA 0) "made") (AA 4)) "place") (tC (.int 1))) LC))
theorem Q4:type_of% (AF (Y5.eq_1 K a E E1) D σ H):=rfl
def Y6(K:FK)(a:Ad)(E E1:XE):TS:=(BO (tB (M4 (AA 4) (BJ K (AA 0) "outs"))) (Y5 K a E E) BR)
theorem Q5:type_of% (AF (Y6.eq_1 K a E E1) D σ H):=rfl
def Y7(K:FK)(a:Ad)(E E1:XE):TS:=(B7 (EK K (AH (AT K) (BJ K (AA 0) "made_in") (AA 2))) (AW 4) (Y6 K a E E))
theorem Q6:type_of% (AF (Y7.eq_1 K a E E1) D σ H):=rfl
def Y8(K:FK)(a:Ad)(E E1:XE):TS:=(A1 (AA 3))
theorem Q7:type_of% (AF (Y8.eq_1 K a E E1) D σ H):=rfl
def Q8(K:FK)(a:Ad)(E:XE):TS:=(AL (Y4 K a E E) (AL (Y7 K a E E) (Y8 K a E E)))
def Y9(K:FK)(a:Ad)(E E1:XE):TS:=(D1 K (AA 0) (EW (DB (AC (AA 1) AE)) (AW 0) FC (AH (DU K) (D2 (AC (tC .non) AE)) (AA 1)) 1 [2]) "contents")
theorem t7:type_of% (AF (Y9.eq_1 K a E E1) D σ H):=rfl
def ZA(K:FK)(a:Ad)(E E1:XE):TS:=(D1 K (AA 0) (AA 2) "width")
theorem t9:type_of% (AF (ZA.eq_1 K a E E1) D σ H):=rfl
def ZB(K:FK)(a:Ad)(E E1:XE):TS:=(D1 K (AA 0) (tC (.int 0)) "written")
theorem uA:type_of% (AF (ZB.eq_1 K a E E1) D σ H):=rfl
def Q9(K:FK)(a:Ad)(E:XE):TS:=(AL (Y9 K a E E) (AL (ZA K a E E) (ZB K a E E)))
def ZC(K:FK)(a:Ad)(E E1:XE):TS:=(A1 (BK (C8 K) (AC (BJ K (AA 0) "contents") AE)))
theorem uB:type_of% (AF (ZC.eq_1 K a E E1) D σ H):=rfl
def RA(K:FK)(a:Ad)(E:XE):TS:=(ZC K a E E)
def ZD(K:FK)(a:Ad)(E E1:XE):TS:=(A1 (BJ K (AA 0) "width"))
theorem uC:type_of% (AF (ZD.eq_1 K a E E1) D σ H):=rfl
def RB(K:FK)(a:Ad)(E:XE):TS:=(ZD K a E E)
def ZE(K:FK)(a:Ad)(E E1:XE):TS:=(IR (a "NoBlock") E (AC (tC (.str "there is no such block")) AE))
theorem uD:type_of% (AF (ZE.eq_1 K a E E1) D σ H):=rfl
def ZF(K:FK)(a:Ad)(E E1:XE):TS:=(BO (DZ (CD (IK GR FW (tC (.int 0)) (AA 1) (BK (C8 K) (AC (BJ K (AA 0) "contents") AE))))) (ZE K a E E) BR)
theorem uE:type_of% (AF (ZF.eq_1 K a E E1) D σ H):=rfl
def RC(K:FK)(a:Ad)(E:XE):TS:=(ZF K a E E)
def ZG(K:FK)(a:Ad)(E E1:XE):TS:=(A1 (AH (AT K) (AA 0) (AA 1)))
theorem uF:type_of% (AF (ZG.eq_1 K a E E1) D σ H):=rfl
def ZH(K:FK)(a:Ad)(E E1:XE):TS:=(BO (CD (AH FW (AA 1) (BK (C8 K) (AC (AA 0) AE)))) (ZG K a E E) BR)
theorem uG:type_of% (AF (ZH.eq_1 K a E E1) D σ H):=rfl
def ZI(K:FK)(a:Ad)(E E1:XE):TS:=(A1 (tC (.int 0)))
theorem uH:type_of% (AF (ZI.eq_1 K a E E1) D σ H):=rfl
def RD(K:FK)(a:Ad)(E:XE):TS:=(AL (ZH K a E E) (ZI K a E E))
def ZJ(K:FK)(a:Ad)(E E1:XE):TS:=(A9 (AH FX (AH (CU K) (AA 0) (AH WK (AA 1) (tC (.int 3)))) (AA 1)) (AW 3))
theorem uI:type_of% (AF (ZJ.eq_1 K a E E1) D σ H):=rfl
def ZK(K:FK)(a:Ad)(E E1:XE):TS:=(A1 (AH FX (AH FX (AH (DU K) (AH FX (AH (DU K) (AA 3) (AA 3)) (AA 1)) (AA 3)) (AA 1)) (AA 2)))
theorem uJ:type_of% (AF (ZK.eq_1 K a E E1) D σ H):=rfl
def RE(K:FK)(a:Ad)(E:XE):TS:=(AL (ZJ K a E E) (ZK K a E E))
def ZL(K:FK)(a:Ad)(E E1:XE):TS:=(A1 (BF (a "Hold") "block_of" (LV K a) [] E (AA 1) (AC (AH (AT K) (BF (a "Hold") "waiting" (EC K a) [] E (AA 1) AE) (tC (.int 0))) AE)))
theorem uK:type_of% (AF (ZL.eq_1 K a E E1) D σ H):=rfl
def RF(K:FK)(a:Ad)(E:XE):TS:=(ZL K a E E)
def ZM(K:FK)(a:Ad)(E E1:XE):TS:=(D1 K (AA 0) (AA 1) "ground")
theorem uL:type_of% (AF (ZM.eq_1 K a E E1) D σ H):=rfl
def ZN(K:FK)(a:Ad)(E E1:XE):TS:=(D1 K (AA 0) (C1 AE) "made")
theorem uM:type_of% (AF (ZN.eq_1 K a E E1) D σ H):=rfl
def ZO(K:FK)(a:Ad)(E E1:XE):TS:=(D1 K (AA 0) (EW (DB (AC (BF (a "Plank") "blocks" (F0 K a) [] E (AA 1) AE) AE)) (AW 0) FC (C1 AE) 1 []) "made_in")
theorem uN:type_of% (AF (ZO.eq_1 K a E E1) D σ H):=rfl
def ZP(K:FK)(a:Ad)(E E1:XE):TS:=(D1 K (AA 0) M5 "latest")
theorem uO:type_of% (AF (ZP.eq_1 K a E E1) D σ H):=rfl
def ZQ(K:FK)(a:Ad)(E E1:XE):TS:=(D1 K (AA 0) GP "outs")
theorem uP:type_of% (AF (ZQ.eq_1 K a E E1) D σ H):=rfl
def RG(K:FK)(a:Ad)(E:XE):TS:=(AL (ZM K a E E) (AL (ZN K a E E) (AL (ZO K a E E) (AL (ZP K a E E) (ZQ K a E E)))))
def ZR(K:FK)(a:Ad)(E E1:XE):TS:=(A1 (BF (a "Plank") "blocks" (F0 K a) [] E (BJ K (AA 0) "ground") AE))
theorem uQ:type_of% (AF (ZR.eq_1 K a E E1) D σ H):=rfl
def RH(K:FK)(a:Ad)(E:XE):TS:=(ZR K a E E)
def ZS(K:FK)(a:Ad)(E E1:XE):TS:=(IR (a "NoBlock") E (AC (tC (.str "there is no such place on the plank")) AE))
theorem uR:type_of% (AF (ZS.eq_1 K a E E1) D σ H):=rfl
def ZT(K:FK)(a:Ad)(E E1:XE):TS:=(BO (IH (DZ (CD (IK GR FW (tC (.int 0)) (AH (AT K) (AA 1) (tC (.int 0))) (BF (a "Plank") "blocks" (F0 K a) [] E (BJ K (AA 0) "ground") AE)))) (DZ (CD (IK GR FW (tC (.int 0)) (AH (AT K) (AA 1) (tC (.int 1))) (BF (a "Plank") "cells" (LJ K a) [] E (BJ K (AA 0) "ground") AE))))) (ZS K a E E) BR)
theorem uS:type_of% (AF (ZT.eq_1 K a E E1) D σ H):=rfl
def RI(K:FK)(a:Ad)(E:XE):TS:=(ZT K a E E)
def ZU(K:FK)(a:Ad)(E E1:XE):TS:=(A9 (BK (NN K) (AC (AA 2) AE)) (AW 3))
theorem RJ:type_of% (AF (ZU.eq_1 K a E E1) D σ H):=rfl
def ZV(K:FK)(a:Ad)(E E1:XE):TS:=(A9 (C1 AE) (AW 4))
theorem RK:type_of% (AF (ZV.eq_1 K a E E1) D σ H):=rfl
def ZW(K:FK)(a:Ad)(E E1:XE):TS:=(A9 (C1 AE) (AW 5))
theorem RM:type_of% (AF (ZW.eq_1 K a E E1) D σ H):=rfl
def ZX(K:FK)(a:Ad)(E E1:XE):TS:=(A9 (BF (a "Hold") "lack_of" (LT K a) [] E (AA 0) (AC (AA 6) (AC (AA 3) AE))) (AW 7))
theorem RN:type_of% (AF (ZX.eq_1 K a E E1) D σ H):=rfl
def ZY(K:FK)(a:Ad)(E E1:XE):TS:=(HB (AA 3) (AA 6) (tC (.bl true)))
theorem RO:type_of% (AF (ZY.eq_1 K a E E1) D σ H):=rfl
def ZZ(K:FK)(a:Ad)(E E1:XE):TS:=(C7 (FT K "list" HF (AA 4) (AC (AA 6) AE)))
theorem RP:type_of% (AF (ZZ.eq_1 K a E E1) D σ H):=rfl
def Z2(K:FK)(a:Ad)(E E1:XE):TS:=(C7 (FT K "list" HF (AA 5) (AC (D2 (AC (AA 6) (AC (AA 7) AE))) AE)))
theorem RQ:type_of% (AF (Z2.eq_1 K a E E1) D σ H):=rfl
def Z3(K:FK)(a:Ad)(E E1:XE):TS:=(BO (CD (AH HE (AA 7) (tC .non))) (AL (ZY K a E E) (ZZ K a E E)) (Z2 K a E E))
theorem RR:type_of% (AF (Z3.eq_1 K a E E1) D σ H):=rfl
def Z4(K:FK)(a:Ad)(E E1:XE):TS:=(BO (KU (tB (GO (AA 6) (BJ K (AA 0) "outs"))) (tB (GO (AA 6) (AA 3)))) (AL (ZX K a E E) (Z3 K a E E)) BR)
theorem RS:type_of% (AF (Z4.eq_1 K a E E1) D σ H):=rfl
def Z5(K:FK)(a:Ad)(E E1:XE):TS:=(B7 (EK K (AH (AT K) (BJ K (AA 0) "made_in") (AA 1))) (AW 6) (Z4 K a E E))
theorem RT:type_of% (AF (Z5.eq_1 K a E E1) D σ H):=rfl
def Z6(K:FK)(a:Ad)(E E1:XE):TS:=(A1 (D2 (AC (AA 4) (AC (AA 5) AE))))
theorem RU:type_of% (AF (Z6.eq_1 K a E E1) D σ H):=rfl
def RV(K:FK)(a:Ad)(E:XE):TS:=(AL (ZU K a E E) (AL (ZV K a E E) (AL (ZW K a E E) (AL (Z5 K a E E) (Z6 K a E E)))))
def Z7(K:FK)(a:Ad)(E E1:XE):TS:=(C7 (BF (a "Plank") "ask_for_block" (F1 K a) [] E (AA 0) (AC (AA 1) AE)))
theorem uT:type_of% (AF (Z7.eq_1 K a E E1) D σ H):=rfl
def Z8(K:FK)(a:Ad)(E E1:XE):TS:=(A1 (BK (GS K) (AC (AH (AT K) (BJ K (AA 0) "contents") (AA 1)) AE)))
theorem uU:type_of% (AF (Z8.eq_1 K a E E1) D σ H):=rfl
def RW(K:FK)(a:Ad)(E:XE):TS:=(AL (Z7 K a E E) (Z8 K a E E))
def Z9(K:FK)(a:Ad)(E E1:XE):TS:=(C7 (BF (a "Plank") "ask_for_block" (F1 K a) [] E (AA 0) (AC (AA 1) AE)))
theorem uV:type_of% (AF (Z9.eq_1 K a E E1) D σ H):=rfl
def aA(K:FK)(a:Ad)(E E1:XE):TS:=(IR (a "NoBlock") E (AC (tC (.str "the list is not as long as a block")) AE))
theorem uW:type_of% (AF (aA.eq_1 K a E E1) D σ H):=rfl
def aB(K:FK)(a:Ad)(E E1:XE):TS:=(BO (CD (AH (B8 K) (BK (C8 K) (AC (AA 2) AE)) (BJ K (AA 0) "width"))) (aA K a E E) BR)
theorem uX:type_of% (AF (aB.eq_1 K a E E1) D σ H):=rfl
def aC(K:FK)(a:Ad)(E E1:XE):TS:=(A9 (BK (IT K) (AC (AA 2) AE)) (II (BJ K (AA 0) "contents") (AA 1) LC))
theorem uY:type_of% (AF (aC.eq_1 K a E E1) D σ H):=rfl
def aD(K:FK)(a:Ad)(E E1:XE):TS:=(MX K (AA 0) (tC (.int 1)) K0 "written")
theorem uZ:type_of% (AF (aD.eq_1 K a E E1) D σ H):=rfl
def RX(K:FK)(a:Ad)(E:XE):TS:=(AL (Z9 K a E E) (AL (aB K a E E) (AL (aC K a E E) (aD K a E E))))
def aE(K:FK)(a:Ad)(E E1:XE):TS:=(A9 (AH K9 (AH FX (AH (CU K) (AH (DU K) (AH FX (AA 0) (AH NA (tC (.int 10)) (tC (.int 40)))) (tC (.int 1000000000039))) (tC (.int 29))) (AH (CU K) (AH (DU K) (tC (.int 2)) (AH NA (tC (.int 10)) (tC (.int 30)))) (tC (.int 1)))) (AH NA (tC (.int 10)) (tC (.int 30)))) (AW 1))
theorem u0:type_of% (AF (aE.eq_1 K a E E1) D σ H):=rfl
def aF(K:FK)(a:Ad)(E E1:XE):TS:=(A9 (AH (DU K) (tC (.str "pQ 7~")) (A6 (BZ K a) [] E (AC (AA 0) (AC (tC (.int 10007)) (AC (tC (.int 13)) AE))))) (AW 2))
theorem u1:type_of% (AF (aF.eq_1 K a E E1) D σ H):=rfl
def aG(K:FK)(a:Ad)(E E1:XE):TS:=(A1 (AH (AT K) (C1 (AC (tC .non) (AC (AA 1) (AC (AH K9 (A6 (BZ K a) [] E (AC (AA 0) (AC (tC (.int 10009)) (AC (tC (.int 7)) AE)))) (tC (.int 3))) (AC (AA 2) (AC (D2 (AC (AA 1) (AC (AA 2) AE))) (AC (D2 AE) AE))))))) (A6 (BZ K a) [] E (AC (AA 0) (AC (tC (.int 10037)) (AC (tC (.int 6)) AE))))))
theorem u6:type_of% (AF (aG.eq_1 K a E E1) D σ H):=rfl
def RY(K:FK)(a:Ad)(E:XE):TS:=(AL (aE K a E E) (AL (aF K a E E) (aG K a E E)))
def aH(K:FK)(a:Ad)(E E1:XE):TS:=(A9 (tC (.int 0)) (AW 2))
theorem RZ:type_of% (AF (aH.eq_1 K a E E1) D σ H):=rfl
def aI(K:FK)(a:Ad)(E E1:XE):TS:=(A9 (tC (.int 0)) (AW 3))
theorem R0:type_of% (AF (aI.eq_1 K a E E1) D σ H):=rfl
def aJ(K:FK)(a:Ad)(E E1:XE):TS:=(A9 (BK (C8 K) (AC (AH (AT K) (BF (a "Hold") "outcome" (HR K a) [] E (AA 1) (AC (AA 4) (AC GP AE))) (tC (.int 0))) AE)) (AW 5))
theorem R1:type_of% (AF (aJ.eq_1 K a E E1) D σ H):=rfl
def aK(K:FK)(a:Ad)(E E1:XE):TS:=(A9 (AA 4) (AW 2))
theorem R3:type_of% (AF (aK.eq_1 K a E E1) D σ H):=rfl
def aL(K:FK)(a:Ad)(E E1:XE):TS:=(A9 (AA 5) (AW 3))
theorem R4:type_of% (AF (aL.eq_1 K a E E1) D σ H):=rfl
def aM(K:FK)(a:Ad)(E E1:XE):TS:=(BO (CD (AH LA (AA 5) (AA 3))) (AL (aK K a E E) (aL K a E E)) BR)
theorem R6:type_of% (AF (aM.eq_1 K a E E1) D σ H):=rfl
def aN(K:FK)(a:Ad)(E E1:XE):TS:=(B7 (DB (AC (BF (a "Hold") "blocks" (HU K a) [] E (AA 1) AE) AE)) (AW 4) (AL (aJ K a E E) (aM K a E E)))
theorem R7:type_of% (AF (aN.eq_1 K a E E1) D σ H):=rfl
def aO(K:FK)(a:Ad)(E E1:XE):TS:=(A1 (AA 2))
theorem R9:type_of% (AF (aO.eq_1 K a E E1) D σ H):=rfl
def SA(K:FK)(a:Ad)(E:XE):TS:=(AL (aH K a E E) (AL (aI K a E E) (AL (aN K a E E) (aO K a E E))))
def aP(K:FK)(a:Ad)(E E1:XE):TS:=(A9 (AH FX (BJ K (AA 0) "turns") (BF (a "Hold") "blocks" (HU K a) [] E (AA 1) AE)) (AW 2))
theorem u7:type_of% (AF (aP.eq_1 K a E E1) D σ H):=rfl
def aQ(K:FK)(a:Ad)(E E1:XE):TS:=(MX K (AA 0) (tC (.int 1)) K0 "turns")
theorem u8:type_of% (AF (aQ.eq_1 K a E E1) D σ H):=rfl
def aR(K:FK)(a:Ad)(E E1:XE):TS:=(A1 (AA 2))
theorem u9:type_of% (AF (aR.eq_1 K a E E1) D σ H):=rfl
def SB(K:FK)(a:Ad)(E:XE):TS:=(AL (aP K a E E) (AL (aQ K a E E) (aR K a E E)))
def aS(K:FK)(a:Ad)(E E1:XE):TS:=(C7 (BF (a "Hold") "ask_for_place" (LQ K a) [] E (AA 0) (AC (AA 1) AE)))
theorem vA:type_of% (AF (aS.eq_1 K a E E1) D σ H):=rfl
def aT(K:FK)(a:Ad)(E E1:XE):TS:=(A1 (O3 (BJ K (AA 0) "latest") (AA 1)))
theorem vB:type_of% (AF (aT.eq_1 K a E E1) D σ H):=rfl
def SC(K:FK)(a:Ad)(E:XE):TS:=(AL (aS K a E E) (aT K a E E))
def aU(K:FK)(a:Ad)(E E1:XE):TS:=(A9 (BF (a "Plank") "read" (F2 K a) [] E (BJ K (AA 0) "ground") (AC (AA 1) AE)) (AW 2))
theorem N3:type_of% (AF (aU.eq_1 K a E E1) D σ H):=rfl
def aV(K:FK)(a:Ad)(E E1:XE):TS:=(A9 (BF (a "Hold") "outcome" (HR K a) [] E (AA 0) (AC (AA 1) (AC GP AE))) (AW 3))
theorem N4:type_of% (AF (aV.eq_1 K a E E1) D σ H):=rfl
def aW(K:FK)(a:Ad)(E E1:XE):TS:=(HB (BJ K (AA 0) "outs") (AA 4) (tC (.bl true)))
theorem N5:type_of% (AF (aW.eq_1 K a E E1) D σ H):=rfl
def aX(K:FK)(a:Ad)(E E1:XE):TS:=(B7 (EK K (AH (AT K) (AA 3) (tC (.int 0)))) (AW 4) (aW K a E E))
theorem N6:type_of% (AF (aX.eq_1 K a E E1) D σ H):=rfl
def aY(K:FK)(a:Ad)(E E1:XE):TS:=(C7 (BF (a "Plank") "write" (HK K a) [] E (BJ K (AA 0) "ground") (AC (AA 1) (AC (BF (a "Hold") "laid_over" (LU K a) [] E (AA 0) (AC (AA 2) (AC (AA 1) AE))) AE))))
theorem N7:type_of% (AF (aY.eq_1 K a E E1) D σ H):=rfl
def aZ(K:FK)(a:Ad)(E E1:XE):TS:=(A1 (AA 3))
theorem N8:type_of% (AF (aZ.eq_1 K a E E1) D σ H):=rfl
def SD(K:FK)(a:Ad)(E:XE):TS:=(AL (aU K a E E) (AL (aV K a E E) (AL (aX K a E E) (AL (aY K a E E) (aZ K a E E)))))
def a0(K:FK)(a:Ad)(E E1:XE):TS:=(A9 (FA (a "Plank") (IY K a) [] E (AC (AH (AT K) (AA 1) (tC (.int 0))) (AC (AH (AT K) (AA 1) (tC (.int 1))) AE))) (AW 2))
theorem vC:type_of% (AF (a0.eq_1 K a E E1) D σ H):=rfl
def bB(K:FK)(a:Ad)(E E1:XE):TS:=(A9 (EW (DB (AC (AH (AT K) (AA 1) (tC (.int 0))) AE)) (AW 0) FC (EW (DB (AC (AH (AT K) (AA 1) (tC (.int 1))) AE)) (AW 0) FC (tC .non) 1 []) 1 [1]) (AW 3))
theorem vD:type_of% (AF (bB.eq_1 K a E E1) D σ H):=rfl
def bC(K:FK)(a:Ad)(E E1:XE):TS:=(A9 (A6 (BZ K a) [] E (AC (AH (CU K) (AA 0) (AA 4)) (AC (tC (.int 10061)) (AC (AH (AT K) (AA 1) (tC (.int 0))) AE)))) (AW 5))
theorem vE:type_of% (AF (bC.eq_1 K a E E1) D σ H):=rfl
def bD(K:FK)(a:Ad)(E E1:XE):TS:=(A9 (EW (DB (AC (AH (AT K) (AA 1) (tC (.int 1))) AE)) (AW 0) FC (A6 (HV K a) [] (λ_=>E0) (AC (AH (CU K) (AH (CU K) (AA 1) (AH (DU K) (tC (.int 3)) (AA 0))) (AA 2)) AE)) 1 [0,4]) (II (AA 3) (AA 5) LC))
theorem vF:type_of% (AF (bD.eq_1 K a E E1) D σ H):=rfl
def bE(K:FK)(a:Ad)(E E1:XE):TS:=(C7 (BF (a "Plank") "write" (HK K a) [] E (AA 2) (AC (AA 5) (AC (BK (GS K) (AC (AH (AT K) (AA 3) (AA 5)) AE)) AE))))
theorem vG:type_of% (AF (bE.eq_1 K a E E1) D σ H):=rfl
def bF(K:FK)(a:Ad)(E E1:XE):TS:=(B7 (DB (AC (A6 (BZ K a) [] E (AC (AA 0) (AC (tC (.int 10039)) (AC (tC (.int 3)) AE)))) AE)) (AW 4) (AL (bC K a E E) (AL (bD K a E E) (bE K a E E))))
theorem vH:type_of% (AF (bF.eq_1 K a E E1) D σ H):=rfl
def bG(K:FK)(a:Ad)(E E1:XE):TS:=(A1 (D2 (AC (AA 2) (AC (AA 3) AE))))
theorem vI:type_of% (AF (bG.eq_1 K a E E1) D σ H):=rfl
def SE(K:FK)(a:Ad)(E:XE):TS:=(AL (a0 K a E E) (AL (bB K a E E) (AL (bF K a E E) (bG K a E E))))
def bH(K:FK)(a:Ad)(E E1:XE):TS:=(A9 (D2 (AC (A6 (BZ K a) [] E (AC (AA 0) (AC (tC (.int 10067)) (AC (AH (AT K) (AA 1) (tC (.int 0))) AE)))) (AC (A6 (BZ K a) [] E (AC (AA 0) (AC (tC (.int 10069)) (AC (AH (AT K) (AA 1) (tC (.int 1))) AE)))) AE))) (AW 3))
theorem vJ:type_of% (AF (bH.eq_1 K a E E1) D σ H):=rfl
def bI(K:FK)(a:Ad)(E E1:XE):TS:=(A9 (D2 (AC (A6 (BZ K a) [] E (AC (AA 0) (AC (tC (.int 10067)) (AC (AH (AT K) (AA 1) (tC (.int 0))) AE)))) (AC (tC (.int 0)) AE))) (AW 3))
theorem vK:type_of% (AF (bI.eq_1 K a E E1) D σ H):=rfl
def bJ(K:FK)(a:Ad)(E E1:XE):TS:=(BO (CD (AH (CG K) (A6 (BZ K a) [] E (AC (AA 0) (AC (tC (.int 10079)) (AC (tC (.int 3)) AE)))) (tC (.int 0)))) (bI K a E E) BR)
theorem vL:type_of% (AF (bJ.eq_1 K a E E1) D σ H):=rfl
def SF(K:FK)(a:Ad)(E E1:XE):TS:=(A9 (C1 AE) (AW 4))
theorem vM:type_of% (AF (SF.eq_1 K a E E1) D σ H):=rfl
def bK(K:FK)(a:Ad)(E E1:XE):TS:=(A9 (A6 (BZ K a) [] E (AC (AH (CU K) (AA 0) (AA 5)) (AC (tC (.int 10093)) (AC (tC (.int 8)) AE)))) (AW 6))
theorem vN:type_of% (AF (bK.eq_1 K a E E1) D σ H):=rfl
def bM(K:FK)(a:Ad)(E E1:XE):TS:=(A9 (A6 (BZ K a) [] E (AC (AH (CU K) (AA 0) (AA 5)) (AC (tC (.int 10103)) (AC (AA 2) AE)))) (AW 6))
theorem vO:type_of% (AF (bM.eq_1 K a E E1) D σ H):=rfl
def bN(K:FK)(a:Ad)(E E1:XE):TS:=(BO (CD (AH (CG K) (A6 (BZ K a) [] E (AC (AH (CU K) (AA 0) (AA 5)) (AC (tC (.int 10099)) (AC (tC (.int 4)) AE)))) (tC (.int 0)))) (bM K a E E) BR)
theorem vP:type_of% (AF (bN.eq_1 K a E E1) D σ H):=rfl
def SG(K:FK)(a:Ad)(E E1:XE):TS:=(C7 (FT K "list" HF (AA 4) (AC (BK (PM K) (AC (tC (.int 0)) (AC (AH K9 (AH K9 (AA 2) (tC (.int 1))) (AA 6)) AE))) AE)))
theorem vQ:type_of% (AF (SG.eq_1 K a E E1) D σ H):=rfl
def SH(K:FK)(a:Ad)(E E1:XE):TS:=(B7 (DB (AC (AH (DU K) (A6 (BZ K a) [] E (AC (AA 0) (AC (tC (.int 10091)) (AC (tC (.int 5)) AE)))) (BK (LE K) (AC (AH LA (AA 2) (tC (.int 0))) AE))) AE)) (AW 5) (AL (bK K a E E) (AL (bN K a E E) (SG K a E E))))
theorem vR:type_of% (AF (SH.eq_1 K a E E1) D σ H):=rfl
def N9(K:FK)(a:Ad)(E E1:XE):TS:=(A1 (D2 (AC (AA 3) (AC (A6 (HV K a) [] E (AC (AA 0) AE)) (AC (AA 4) AE)))))
theorem vS:type_of% (AF (N9.eq_1 K a E E1) D σ H):=rfl
def SI(K:FK)(a:Ad)(E:XE):TS:=(AL (bH K a E E) (AL (bJ K a E E) (AL (SF K a E E) (AL (SH K a E E) (N9 K a E E)))))
def bO(K:FK)(a:Ad)(E E1:XE):TS:=(A1 (NQ (a "Broom")))
theorem vT:type_of% (AF (bO.eq_1 K a E E1) D σ H):=rfl
def bP(K:FK)(a:Ad)(E E1:XE):TS:=(BO (CD (AH (CG K) (AA 0) (tC (.int 0)))) (bO K a E E) BR)
theorem vU:type_of% (AF (bP.eq_1 K a E E1) D σ H):=rfl
def bQ(K:FK)(a:Ad)(E E1:XE):TS:=(A1 (NQ (a "Fullest")))
theorem vV:type_of% (AF (bQ.eq_1 K a E E1) D σ H):=rfl
def bR(K:FK)(a:Ad)(E E1:XE):TS:=(BO (CD (AH (CG K) (AA 0) (tC (.int 1)))) (bQ K a E E) BR)
theorem vW:type_of% (AF (bR.eq_1 K a E E1) D σ H):=rfl
def bS(K:FK)(a:Ad)(E E1:XE):TS:=(A1 (FA (a "Round") (LW K a) [] E AE))
theorem vX:type_of% (AF (bS.eq_1 K a E E1) D σ H):=rfl
def SJ(K:FK)(a:Ad)(E:XE):TS:=(AL (bP K a E E) (AL (bR K a E E) (bS K a E E)))
def bT(K:FK)(a:Ad)(E E1:XE):TS:=(A9 (C1 AE) (AW 2))
theorem vY:type_of% (AF (bT.eq_1 K a E E1) D σ H):=rfl
def bU(K:FK)(a:Ad)(E E1:XE):TS:=(A9 (NP (BF (a "Broom") "chosen" (JG K a) [] E (AA 1) (AC (AA 0) AE)) (NP (BF (a "Fullest") "chosen" (JH K a) [] E (AA 1) (AC (AA 0) AE)) (BF (a "Round") "chosen" (JI K a) [] E (AA 1) (AC (AA 0) AE)))) (AW 3))
theorem vZ:type_of% (AF (bU.eq_1 K a E E1) D σ H):=rfl
def bV(K:FK)(a:Ad)(E E1:XE):TS:=(C7 (BF (a "Hold") "write" (HS K a) [] E (AA 0) (AC (AA 3) AE)))
theorem v0:type_of% (AF (bV.eq_1 K a E E1) D σ H):=rfl
def bW(K:FK)(a:Ad)(E E1:XE):TS:=(C7 (FT K "list" HF (AA 2) (AC (AA 3) AE)))
theorem v3:type_of% (AF (bW.eq_1 K a E E1) D σ H):=rfl
def bX(K:FK)(a:Ad)(E E1:XE):TS:=(UK (EJ K (BF (a "Hold") "waiting" (EC K a) [] E (AA 0) AE)) (AL (bU K a E E) (AL (bV K a E E) (bW K a E E))))
theorem v5:type_of% (AF (bX.eq_1 K a E E1) D σ H):=rfl
def bY(K:FK)(a:Ad)(E E1:XE):TS:=(A1 (AA 2))
theorem v6:type_of% (AF (bY.eq_1 K a E E1) D σ H):=rfl
def SK(K:FK)(a:Ad)(E:XE):TS:=(AL (bT K a E E) (AL (bX K a E E) (bY K a E E)))
def bZ(K:FK)(a:Ad)(E E1:XE):TS:=(A9 (BF (a "Hold") "newest" (HQ K a) [] E (AA 0) (AC (AA 1) AE)) (AW 4))
theorem v7:type_of% (AF (bZ.eq_1 K a E E1) D σ H):=rfl
def cA(K:FK)(a:Ad)(E E1:XE):TS:=(C7 (BF (a "Hold") "ask_for_changes" (LR K a) [] E (AA 0) (AC (AA 3) AE)))
theorem v8:type_of% (AF (cA.eq_1 K a E E1) D σ H):=rfl
def cB(K:FK)(a:Ad)(E E1:XE):TS:=(A9 (BK (C8 K) (AC (BJ K (AA 0) "made") AE)) (AW 5))
theorem v9:type_of% (AF (cB.eq_1 K a E E1) D σ H):=rfl
def cC(K:FK)(a:Ad)(E E1:XE):TS:=(C7 (FT K "list" HF (BJ K (AA 0) "made") (AC (FA (a "Change") (LO K a) [] E (AC (AA 1) (AC (AA 2) (AC (A6 (LP K a) [] E (AC (AA 3) (AC (AA 4) AE))) AE)))) AE)))
theorem wA:type_of% (AF (cC.eq_1 K a E E1) D σ H):=rfl
def cD(K:FK)(a:Ad)(E E1:XE):TS:=(C7 (FT K "list" HF (AH (AT K) (BJ K (AA 0) "made_in") (AH (AT K) (AA 1) (tC (.int 0)))) (AC (AA 5) AE)))
theorem wB:type_of% (AF (cD.eq_1 K a E E1) D σ H):=rfl
def cE(K:FK)(a:Ad)(E E1:XE):TS:=(HB (BJ K (AA 0) "latest") (AA 1) (AA 5))
theorem wC:type_of% (AF (cE.eq_1 K a E E1) D σ H):=rfl
def cF(K:FK)(a:Ad)(E E1:XE):TS:=(A1 (AA 5))
theorem wD:type_of% (AF (cF.eq_1 K a E E1) D σ H):=rfl
def SL(K:FK)(a:Ad)(E:XE):TS:=(AL (bZ K a E E) (AL (cA K a E E) (AL (cB K a E E) (AL (cC K a E E) (AL (cD K a E E) (AL (cE K a E E) (cF K a E E)))))))
def cG(K:FK)(a:Ad)(E E1:XE):TS:=(A9 (BF (a "Hold") "newest" (HQ K a) [] E (AA 0) (AC (AA 1) AE)) (AW 2))
theorem wE:type_of% (AF (cG.eq_1 K a E E1) D σ H):=rfl
def cH(K:FK)(a:Ad)(E E1:XE):TS:=(A1 (AH (AT K) (BF (a "Plank") "read" (F2 K a) [] E (BJ K (AA 0) "ground") (AC (AH (AT K) (AA 1) (tC (.int 0))) AE)) (AH (AT K) (AA 1) (tC (.int 1)))))
theorem wF:type_of% (AF (cH.eq_1 K a E E1) D σ H):=rfl
def cI(K:FK)(a:Ad)(E E1:XE):TS:=(BO (CD (AH HE (AA 2) (tC .non))) (cH K a E E) BR)
theorem wG:type_of% (AF (cI.eq_1 K a E E1) D σ H):=rfl
def cJ(K:FK)(a:Ad)(E E1:XE):TS:=(A1 (BJ K (AH (AT K) (BJ K (AA 0) "made") (AA 2)) "value"))
theorem wH:type_of% (AF (cJ.eq_1 K a E E1) D σ H):=rfl
def SM(K:FK)(a:Ad)(E:XE):TS:=(AL (cG K a E E) (AL (cI K a E E) (cJ K a E E)))
def cK(K:FK)(a:Ad)(E E1:XE):TS:=(A9 (BF (a "Hold") "write" (HS K a) [] E (AA 0) (AC (AA 1) AE)) (AW 3))
theorem wI:type_of% (AF (cK.eq_1 K a E E1) D σ H):=rfl
def wJ(K:FK)(a:Ad)(E E1:XE):TS:=(A1 (tC (.bl false)))
def cL(K:FK)(a:Ad)(E E1:XE):TS:=(BO (tB (M4 (AA 4) (DT (AA 2) (tC (.str "out"))))) (wJ K a E E) BR)
theorem wK:type_of% (AF (cL.eq_1 K a E E1) D σ H):=rfl
def wM(K:FK)(a:Ad)(E E1:XE):TS:=(A1 (tC (.bl false)))
def cM(K:FK)(a:Ad)(E E1:XE):TS:=(BO (KU (tB (GO (AA 5) (DT (AA 2) (tC (.str "out"))))) (CD (AH (PZ K) (AA 5) (AH (AT K) (AA 3) (tC (.int 0)))))) (wM K a E E) BR)
theorem wN:type_of% (AF (cM.eq_1 K a E E1) D σ H):=rfl
def cN(K:FK)(a:Ad)(E E1:XE):TS:=(B7 (EK K (AH (AT K) (AH (AT K) (DT (AA 2) (tC (.str "changes"))) (AA 4)) (tC (.int 2)))) (AW 5) (cM K a E E))
theorem wO:type_of% (AF (cN.eq_1 K a E E1) D σ H):=rfl
def cO(K:FK)(a:Ad)(E E1:XE):TS:=(B7 (EK K (AH (AT K) (AA 3) (tC (.int 0)))) (AW 4) (AL (cL K a E E) (cN K a E E)))
theorem wP:type_of% (AF (cO.eq_1 K a E E1) D σ H):=rfl
def cP(K:FK)(a:Ad)(E E1:XE):TS:=(HB (DT (AA 2) (tC (.str "out"))) (AA 4) (tC (.bl true)))
theorem wQ:type_of% (AF (cP.eq_1 K a E E1) D σ H):=rfl
def cQ(K:FK)(a:Ad)(E E1:XE):TS:=(B7 (EK K (AH (AT K) (AA 3) (tC (.int 0)))) (AW 4) (cP K a E E))
theorem wR:type_of% (AF (cQ.eq_1 K a E E1) D σ H):=rfl
def cR(K:FK)(a:Ad)(E E1:XE):TS:=(A1 (tC (.bl true)))
theorem wS:type_of% (AF (cR.eq_1 K a E E1) D σ H):=rfl
def SN(K:FK)(a:Ad)(E:XE):TS:=(AL (cK K a E E) (AL (cO K a E E) (AL (cQ K a E E) (cR K a E E))))
def cS(K:FK)(a:Ad)(E E1:XE):TS:=(A1 (AH (CG K) (BK (XL K) (AC (DT (AA 1) (tC (.str "out"))) AE)) (BK (C8 K) (AC (DT (AA 1) (tC (.str "changes"))) AE))))
theorem wT:type_of% (AF (cS.eq_1 K a E E1) D σ H):=rfl
def cT(K:FK)(a:Ad)(E E1:XE):TS:=(BO (CD (AH (CG K) (BF (a "Hold") "waiting" (EC K a) [] E (AA 0) AE) (C1 AE))) (cS K a E E) BR)
theorem wU:type_of% (AF (cT.eq_1 K a E E1) D σ H):=rfl
def wV(K:FK)(a:Ad)(E E1:XE):TS:=(A1 (tC (.bl false)))
def cU(K:FK)(a:Ad)(E E1:XE):TS:=(BO (DZ (EJ K (A6 (HW K a) [] E (AC (AA 0) (AC (AH FX (AH (CU K) (AA 2) (AA 4)) (AA 3)) (AC (AA 1) AE)))))) (wV K a E E) BR)
theorem wW:type_of% (AF (cU.eq_1 K a E E1) D σ H):=rfl
def cV(K:FK)(a:Ad)(E E1:XE):TS:=(B7 (DB (AC (AH (DU K) (AA 3) (AH (CU K) (tC (.int 1)) (BK (C8 K) (AC (DT (AA 1) (tC (.str "changes"))) AE)))) AE)) (AW 4) (AL (cT K a E E) (cU K a E E)))
theorem wX:type_of% (AF (cV.eq_1 K a E E1) D σ H):=rfl
def cW(K:FK)(a:Ad)(E E1:XE):TS:=(A1 (AH (CG K) (BF (a "Hold") "waiting" (EC K a) [] E (AA 0) AE) (C1 AE)))
theorem wY:type_of% (AF (cW.eq_1 K a E E1) D σ H):=rfl
def SO(K:FK)(a:Ad)(E:XE):TS:=(AL (cV K a E E) (cW K a E E))
def wZ(K:FK)(a:Ad)(n:Nat)(E E1:XE):TS:=(A1 (tC (.bl false)))
def cX(K:FK)(a:Ad)(n:Nat)(E E1:XE):TS:=(BO (IH (CD (AH (B8 K) (BK (EX K) (AC (AA 0) (AC (tC (.ty "list")) AE))) (BK (EX K) (AC (AA 1) (AC (tC (.ty "list")) AE))))) (DZ (EJ K (BK (EX K) (AC (AA 0) (AC (D2 (AC (tC (.ty "list")) (AC (tC (.ty "tuple")) AE))) AE)))))) (wZ K a n E E) BR)
theorem w8:type_of% (AF (cX.eq_1 K a n E E1) D σ H):=rfl
def w9(K:FK)(a:Ad)(n:Nat)(E E1:XE):TS:=(A1 (tC (.bl false)))
def cY(K:FK)(a:Ad)(n:Nat)(E E1:XE):TS:=(BO (CD (AH (B8 K) (BK (C8 K) (AC (AA 0) AE)) (BK (C8 K) (AC (AA 1) AE)))) (w9 K a n E E) BR)
theorem xA:type_of% (AF (cY.eq_1 K a n E E1) D σ H):=rfl
def xB(K:FK)(a:Ad)(n:Nat)(E E1:XE):TS:=(A1 (tC (.bl false)))
def cZ(K:FK)(a:Ad)(n:Nat)(E E1:XE):TS:=(BO (DZ (EJ K (A6 (DY K a n) [] E (AC (AA 2) (AC (AA 3) AE))))) (xB K a n E E) BR)
theorem xC:type_of% (AF (cZ.eq_1 K a n E E1) D σ H):=rfl
def c5(K:FK)(a:Ad)(n:Nat)(E E1:XE):TS:=(B7 (PL K (AC (AA 0) (AC (AA 1) AE))) (OL K 2 (ML (AW 2) (ML (AW 3) OK))) (cZ K a n E E))
theorem xD:type_of% (AF (c5.eq_1 K a n E E1) D σ H):=rfl
def c6(K:FK)(a:Ad)(n:Nat)(E E1:XE):TS:=(A1 (tC (.bl true)))
theorem xE:type_of% (AF (c6.eq_1 K a n E E1) D σ H):=rfl
def c7(K:FK)(a:Ad)(n:Nat)(E E1:XE):TS:=(BO (EJ K (BK (EX K) (AC (AA 1) (AC (D2 (AC (tC (.ty "list")) (AC (tC (.ty "tuple")) AE))) AE)))) (AL (cX K a n E E) (AL (cY K a n E E) (AL (c5 K a n E E) (c6 K a n E E)))) BR)
theorem c8:type_of% (AF (c7.eq_1 K a n E E1) D σ H):=rfl
def c9(K:FK)(a:Ad)(n:Nat)(E E1:XE):TS:=(A1 (AH HE (AA 0) (tC .non)))
theorem xF:type_of% (AF (c9.eq_1 K a n E E1) D σ H):=rfl
def SQ(K:FK)(a:Ad)(n:Nat)(E E1:XE):TS:=(BO (CD (AH HE (AA 1) (tC .non))) (c9 K a n E E) BR)
theorem SR:type_of% (AF (SQ.eq_1 K a n E E1) D σ H):=rfl
def dA(K:FK)(a:Ad)(n:Nat)(E E1:XE):TS:=(A1 (G4 (BK (EX K) (AC (AA 0) (AC (tC (.ty "str")) AE))) (AH (CG K) (AA 0) (AA 1))))
theorem xG:type_of% (AF (dA.eq_1 K a n E E1) D σ H):=rfl
def SS(K:FK)(a:Ad)(n:Nat)(E E1:XE):TS:=(BO (EJ K (BK (EX K) (AC (AA 1) (AC (tC (.ty "str")) AE)))) (dA K a n E E) BR)
theorem dB:type_of% (AF (SS.eq_1 K a n E E1) D σ H):=rfl
def ST(K:FK)(a:Ad)(n:Nat)(E E1:XE):TS:=(A1 (G4 (BK (EX K) (AC (AA 0) (AC (tC (.ty "int")) AE))) (G4 (PB K (BK (EX K) (AC (AA 0) (AC (tC (.ty "bool")) AE)))) (AH (CG K) (AA 0) (AA 1)))))
theorem xH:type_of% (AF (ST.eq_1 K a n E E1) D σ H):=rfl
def JO(K:FK)(a:Ad)(n:Nat)(E:XE):TS:=(AL (c7 K a n E E) (AL (SQ K a n E E) (AL (SS K a n E E) (ST K a n E E))))
def dC(K:FK)(a:Ad)(E E1:XE):TS:=(A9 (A6 (LX K a) [] E (AC (AA 2) (AC (AA 3) (AC (BK (C8 K) (AC (DT (AH (AT K) (AA 1) (tC (.int 0))) (tC (.str "changes"))) AE)) AE)))) (AW 5))
theorem xI:type_of% (AF (dC.eq_1 K a E E1) D σ H):=rfl
def xJ(K:FK)(a:Ad)(E E1:XE):TS:=(A1 (tC (.bl false)))
def SU(K:FK)(a:Ad)(E E1:XE):TS:=(BO (CD (AH (B8 K) (BF (a "Hold") "change" (LS K a) [] E (AH (AT K) (AA 0) (AA 6)) (AC (AH (AT K) (AA 5) (tC (.int 0))) (AC (AH (AT K) (AA 5) (tC (.int 1))) (AC (BK (GS K) (AC (AH (AT K) (AA 5) (tC (.int 2))) AE)) AE)))) (BK (C8 K) (AC (DT (AH (AT K) (AA 1) (AA 6)) (tC (.str "changes"))) AE)))) (xJ K a E E) BR)
theorem xK:type_of% (AF (SU.eq_1 K a E E1) D σ H):=rfl
def SV(K:FK)(a:Ad)(E E1:XE):TS:=(C7 (FT K "list" HF (DT (AH (AT K) (AA 1) (AA 6)) (tC (.str "changes"))) (AC (AA 5) AE)))
theorem xL:type_of% (AF (SV.eq_1 K a E E1) D σ H):=rfl
def dD(K:FK)(a:Ad)(E E1:XE):TS:=(B7 (DB (AC (tC (.int 2)) AE)) (AW 6) (AL (SU K a E E) (SV K a E E)))
theorem xM:type_of% (AF (dD.eq_1 K a E E1) D σ H):=rfl
def dE(K:FK)(a:Ad)(E E1:XE):TS:=(HB (AA 4) (AH (AT K) (AA 5) (tC (.int 0))) (AH (AT K) (AA 5) (tC (.int 1))))
theorem xN:type_of% (AF (dE.eq_1 K a E E1) D σ H):=rfl
def xO(K:FK)(a:Ad)(E E1:XE):TS:=(A1 (tC (.bl false)))
def dF(K:FK)(a:Ad)(E E1:XE):TS:=(BO (DZ (EJ K (A6 (HW K a) [] E (AC (AH (AT K) (AA 0) (AA 6)) (AC (A6 (BZ K a) [] E (AC (AH (CU K) (AH (CU K) (AA 2) (AH (DU K) (tC (.int 7)) (AA 7))) (AA 6)) (AC (tC (.int 10133)) (AC (AH (AT K) (AA 3) (tC (.int 0))) AE)))) (AC (AH (AT K) (AA 1) (AA 6)) AE)))))) (xO K a E E) BR)
theorem xP:type_of% (AF (dF.eq_1 K a E E1) D σ H):=rfl
def SW(K:FK)(a:Ad)(E E1:XE):TS:=(B7 (DB (AC (A6 (BZ K a) [] E (AC (AH (CU K) (AA 2) (AA 6)) (AC (tC (.int 10111)) (AC (tC (.int 4)) AE)))) AE)) (AW 7) (dF K a E E))
theorem xQ:type_of% (AF (SW.eq_1 K a E E1) D σ H):=rfl
def dG(K:FK)(a:Ad)(E E1:XE):TS:=(B7 (DB (AC (tC (.int 2)) AE)) (AW 6) (SW K a E E))
theorem xR:type_of% (AF (dG.eq_1 K a E E1) D σ H):=rfl
def dH(K:FK)(a:Ad)(E E1:XE):TS:=(A1 (G4 (A6 (DY K a 8) [] E (AC (BF (a "Hold") "in_hand" (F6 K a) [] E (AH (AT K) (AA 0) (tC (.int 0))) (AC (AH (AT K) (AA 5) (tC (.int 0))) AE)) (AC (AH (AT K) (AA 5) (tC (.int 1))) AE))) (A6 (DY K a 8) [] E (AC (BF (a "Hold") "in_hand" (F6 K a) [] E (AH (AT K) (AA 0) (tC (.int 1))) (AC (AH (AT K) (AA 5) (tC (.int 0))) AE)) (AC (AH (AT K) (AA 5) (tC (.int 1))) AE)))))
theorem xS:type_of% (AF (dH.eq_1 K a E E1) D σ H):=rfl
def SX(K:FK)(a:Ad)(E:XE):TS:=(AL (dC K a E E) (AL (dD K a E E) (AL (dE K a E E) (AL (dG K a E E) (dH K a E E)))))
def SY(K:FK)(a:Ad)(E E1:XE):TS:=(A9 (DT (AA 2) (AA 3)) (II (AH (AT K) (AA 1) (AH (AT K) (AA 3) (tC (.int 0)))) (AH (AT K) (AA 3) (tC (.int 1))) LC))
theorem xT:type_of% (AF (SY.eq_1 K a E E1) D σ H):=rfl
def dJ(K:FK)(a:Ad)(E E1:XE):TS:=(B7 (NS (AA 2)) (AW 3) (SY K a E E))
theorem xU:type_of% (AF (dJ.eq_1 K a E E1) D σ H):=rfl
def xV(K:FK)(a:Ad)(E E1:XE):TS:=(A1 (tC (.bl false)))
def dM(K:FK)(a:Ad)(E E1:XE):TS:=(BO (DZ (EJ K (A6 (DY K a 8) [] E (AC (BF (a "Plank") "read" (F2 K a) [] E (AA 0) (AC (AA 4) AE)) (AC (AH (AT K) (AA 1) (AA 4)) AE))))) (xV K a E E) BR)
theorem xW:type_of% (AF (dM.eq_1 K a E E1) D σ H):=rfl
def SZ(K:FK)(a:Ad)(E E1:XE):TS:=(B7 (DB (AC (BK (C8 K) (AC (AA 1) AE)) AE)) (AW 4) (dM K a E E))
theorem xX:type_of% (AF (SZ.eq_1 K a E E1) D σ H):=rfl
def S5(K:FK)(a:Ad)(E E1:XE):TS:=(A1 (tC (.bl true)))
theorem xY:type_of% (AF (S5.eq_1 K a E E1) D σ H):=rfl
def S6(K:FK)(a:Ad)(E:XE):TS:=(AL (dJ K a E E) (AL (SZ K a E E) (S5 K a E E)))
def dN(K:FK)(a:Ad)(E E1:XE):TS:=(A9 (A6 (F5 K a) [] E (AC (AA 0) (AC (tC (.int 0)) AE))) (AW 1))
theorem xZ:type_of% (AF (dN.eq_1 K a E E1) D σ H):=rfl
def dO(K:FK)(a:Ad)(E E1:XE):TS:=(A9 (D2 (AC (AH (CU K) (tC (.int 1)) (A6 (BZ K a) [] E (AC (AA 1) (AC (tC (.int 10139)) (AC (tC (.int 8)) AE))))) (AC (AH (CU K) (tC (.int 1)) (A6 (BZ K a) [] E (AC (AA 1) (AC (tC (.int 10141)) (AC (tC (.int 5)) AE))))) AE))) (AW 2))
theorem x4:type_of% (AF (dO.eq_1 K a E E1) D σ H):=rfl
def dP(K:FK)(a:Ad)(E E1:XE):TS:=(A9 (C1 (AC (A6 (JK K a) [] E (AC (A6 (F5 K a) [] E (AC (AA 0) (AC (tC (.int 1)) AE))) (AC (AA 2) AE))) (AC (A6 (JK K a) [] E (AC (A6 (F5 K a) [] E (AC (AA 0) (AC (tC (.int 1)) AE))) (AC (AA 2) AE))) AE))) (AW 3))
theorem x5:type_of% (AF (dP.eq_1 K a E E1) D σ H):=rfl
def dQ(K:FK)(a:Ad)(E E1:XE):TS:=(A9 (C1 (AC (FA (a "Hold") (HP K a) [] E (AC (AH (AT K) (AH (AT K) (AA 3) (tC (.int 0))) (tC (.int 0))) AE)) (AC (FA (a "Hold") (HP K a) [] E (AC (AH (AT K) (AH (AT K) (AA 3) (tC (.int 1))) (tC (.int 0))) AE)) AE))) (AW 4))
theorem x6:type_of% (AF (dQ.eq_1 K a E E1) D σ H):=rfl
def dR(K:FK)(a:Ad)(E E1:XE):TS:=(A9 (C1 (AC (K4 [((tC (.str "changes")),(C1 AE)),((tC (.str "out")),GP)]) (AC (K4 [((tC (.str "changes")),(C1 AE)),((tC (.str "out")),GP)]) AE))) (AW 5))
theorem x8:type_of% (AF (dR.eq_1 K a E E1) D σ H):=rfl
def dU(K:FK)(a:Ad)(E E1:XE):TS:=(A9 M5 (AW 6))
theorem x9:type_of% (AF (dU.eq_1 K a E E1) D σ H):=rfl
def yA(K:FK)(a:Ad)(E E1:XE):TS:=(A1 (tC (.bl false)))
def dX(K:FK)(a:Ad)(E E1:XE):TS:=(BO (DZ (EJ K (A6 (LY K a) [] E (AC (AA 4) (AC (AA 5) (AC (AA 7) (AC (AA 2) (AC (AA 6) AE)))))))) (yA K a E E) BR)
theorem yB:type_of% (AF (dX.eq_1 K a E E1) D σ H):=rfl
def dY(K:FK)(a:Ad)(E E1:XE):TS:=(B7 (EK K (OT (NC K) (AA 0) (MY (tC (.int 2))) (MY (tC (.int 102))))) (AW 7) (dX K a E E))
theorem yC:type_of% (AF (dY.eq_1 K a E E1) D σ H):=rfl
def yD(K:FK)(a:Ad)(E E1:XE):TS:=(A1 (tC (.bl false)))
def S7(K:FK)(a:Ad)(E E1:XE):TS:=(BO (IH (DZ (EJ K (A6 (DY K a 8) [] E (AC (BF (a "Hold") "in_hand" (F6 K a) [] E (AH (AT K) (AA 4) (tC (.int 0))) (AC (AA 8) AE)) (AC (DT (AA 6) (AA 8)) AE))))) (CD (AH (B8 K) (BF (a "Hold") "in_hand" (F6 K a) [] E (AH (AT K) (AA 4) (tC (.int 1))) (AC (AA 8) AE)) (DT (AA 6) (AA 8))))) (yD K a E E) BR)
theorem yE:type_of% (AF (S7.eq_1 K a E E1) D σ H):=rfl
def S8(K:FK)(a:Ad)(E E1:XE):TS:=(B7 (NS (AA 6)) (AW 8) (S7 K a E E))
theorem yF:type_of% (AF (S8.eq_1 K a E E1) D σ H):=rfl
def L5(K:FK)(a:Ad)(E E1:XE):TS:=(C7 (A6 (JJ K a) [] E (AC (AH (AT K) (AA 4) (tC (.int 0))) (AC (A6 (JM K a) [] E (AC (A6 (BZ K a) [] E (AC (AA 1) (AC (tC (.int 10151)) (AC (tC (.int 3)) AE)))) AE)) AE))))
theorem yG:type_of% (AF (L5.eq_1 K a E E1) D σ H):=rfl
def dZ(K:FK)(a:Ad)(E E1:XE):TS:=(C7 (A6 (JJ K a) [] E (AC (AH (AT K) (AA 4) (tC (.int 1))) (AC (A6 (JM K a) [] E (AC (A6 (BZ K a) [] E (AC (AA 1) (AC (tC (.int 10163)) (AC (tC (.int 3)) AE)))) AE)) AE))))
theorem yH:type_of% (AF (dZ.eq_1 K a E E1) D σ H):=rfl
def yI(K:FK)(a:Ad)(E E1:XE):TS:=(A1 (tC (.bl false)))
def d7(K:FK)(a:Ad)(E E1:XE):TS:=(BO (DZ (EJ K (A6 (LZ K a) [] E (AC (AH (AT K) (AA 4) (tC (.int 1))) (AC (AH (AT K) (AA 5) (tC (.int 1))) (AC (A6 (BZ K a) [] E (AC (AA 1) (AC (tC (.int 10169)) (AC (AH (AT K) (AA 2) (tC (.int 0))) AE)))) (AC (AH (AT K) (AA 2) (tC (.int 0))) AE))))))) (yI K a E E) BR)
theorem yJ:type_of% (AF (d7.eq_1 K a E E1) D σ H):=rfl
def L6(K:FK)(a:Ad)(E E1:XE):TS:=(BO (CD (AH (CG K) (A6 (BZ K a) [] E (AC (AA 1) (AC (tC (.int 10159)) (AC (tC (.int 2)) AE)))) (tC (.int 0)))) (dZ K a E E) (d7 K a E E))
theorem yK:type_of% (AF (L6.eq_1 K a E E1) D σ H):=rfl
def yL(K:FK)(a:Ad)(E E1:XE):TS:=(A1 (tC (.bl false)))
def JP(K:FK)(a:Ad)(E E1:XE):TS:=(BO (IH (CD (AH (B8 K) (BF (a "Hold") "waiting" (EC K a) [] E (AH (AT K) (AA 4) (tC (.int 0))) AE) (C1 AE))) (CD (AH (B8 K) (BF (a "Hold") "waiting" (EC K a) [] E (AH (AT K) (AA 4) (tC (.int 1))) AE) (C1 AE)))) (yL K a E E) BR)
theorem yM:type_of% (AF (JP.eq_1 K a E E1) D σ H):=rfl
def JQ(K:FK)(a:Ad)(E E1:XE):TS:=(A1 (G4 (A6 (JN K a) [] E (AC (AH (AT K) (AH (AT K) (AA 3) (tC (.int 0))) (tC (.int 0))) (AC (AH (AT K) (AH (AT K) (AA 3) (tC (.int 0))) (tC (.int 1))) (AC (AA 6) AE)))) (A6 (JN K a) [] E (AC (AH (AT K) (AH (AT K) (AA 3) (tC (.int 1))) (tC (.int 0))) (AC (AH (AT K) (AH (AT K) (AA 3) (tC (.int 1))) (tC (.int 1))) (AC (AA 6) AE))))))
theorem yN:type_of% (AF (JQ.eq_1 K a E E1) D σ H):=rfl
def S9(K:FK)(a:Ad)(E:XE):TS:=(AL (dN K a E E) (AL (dO K a E E) (AL (dP K a E E) (AL (dQ K a E E) (AL (dR K a E E) (AL (dU K a E E) (AL (dY K a E E) (AL (S8 K a E E) (AL (L5 K a E E) (AL (L6 K a E E) (AL (JP K a E E) (JQ K a E E))))))))))))
end
end L2
namespace L2
local macro_rules
 | `(tactic| push_cast[$ls,*])=>`(tactic| simp only[↓lO,↓lP,↓lQ,↓lR,↓lS,↓lT,↓lU,↓lV,↓lW,↓lX,↓lY,↓lZ,↓mB,↓mC,↓mD,↓mE,↓mF,↓mG,↓mH,↓mI,↓mJ,↓mK,↓mM,↓mO,↓mP,↓mQ,↓mR,↓mS,↓mT,↓mU,↓mV,↓mW,↓mX,↓mY,↓mZ,↓m6,↓m7,↓m8,↓m9,↓nD,↓nE,↓nH,↓nJ,↓nK,↓nQ,↓nR,↓nS,↓nU,↓nX,↓nY,↓nZ,↓n5,↓n6,
     ↓n8,↓oC,↓oF,↓oG,↓oH,↓oI,↓oJ,↓oK,↓oM,↓oN,↓oO,↓oU,↓oW,↓oV,↓oX,↓oY,↓oZ,↓o0,↓o6,↓oQ,↓oP,↓oR,↓o7,↓o8,↓o9,↓pA,↓pB,↓pC,↓pD,↓pE,↓pF,↓pG,↓pH,↓pJ,↓pK,↓pL,↓pM,↓pN,↓pO,↓pP,↓pR,↓pS,↓pT,↓WP,↓pU,
     K9,FX,WK,NA,k8,lA,Ends.drop,A5,List.map_cons,List.map_nil,List.length_cons,List.length_nil,List.reduceReplicate,Nat.reduceAdd,Nat.reduceSub,Nat.zero_add,List.cons_append,List.nil_append,List.append_nil,List.getElem?_cons_zero,List.getElem?_cons_succ,Option.some.injEq,Option.join_some,List.set_cons_zero,List.set_cons_succ,
     V.int.injEq,V.ref.injEq,V.bl.injEq,V.str.injEq,List.cons.injEq,and_true,true_and,exists_eq_left',exists_eq_left,exists_eq',exists_eq,exists_and_left,exists_and_right,reduceCtorEq,false_and,and_false,or_false,false_or,exists_false,decide_eq_true_eq,Bool.not_eq_true',Bool.not_eq_true,decide_eq_false_iff_not,eq_self_iff_true,if_true,Bool.false_eq_true,if_false,ite_true,Bool.true_eq_false,forall_const,and_assoc,Int.reduceToNat,Int.reduceLT,Int.reduceLE,Int.reduceEq,Nat.reduceLeDiff,Int.toNat_natCast,not_true_eq_false,not_false_eq_true,Bool.not_false,Bool.not_true,↓sB,↓sC,↓sD,↓sE,↓sF,↓sG,↓sI,↓sJ,↓sK,↓r8,↓rZ,↓rV,↓rX,↓qI,↓sQ,↓sS,↓sX,↓sZ,↓tE,↓tF,↓P9,$ls,*])
section
variable{K:W.Frag}{a:Ad}{vs:List V}{H:Hp}{Q:VK}{E:XK}
theorem yO(h:IY K a vs H Q E):Q9 K a (λ_=>E) (A7 Q) (A5 ["self","blocks","cells"] vs) H:=by
 obtain⟨p,dx,m,w,rfl,T,hp,hm,h1,h2,q⟩:=h
 push_cast[Q9,↓t7,↓t9,↓uA]
 refine⟨by omega,by omega,?_⟩
 refine LF (GW m (by omega)) (λi ys H'=>Same H H'/\∃ ts:List Addr,ys=ts.map V.ref/\Paired (λt r=>H' t=some (.tup r)) ts (List.replicate i (List.replicate w .non))) ⟨Same.refl _,[],rfl,.nil⟩ (λi ys H' hi hl ⟨s,ts,e,P⟩=> ?_) (λys H' hl ⟨s,ts,e,P⟩ cl hcl=> ?_)
 ·push_cast[FZ,Option.join_some,Int.zero_add]
  refine⟨by decide,λt ht=>.inr ?_⟩
  have fin:∀ (t':Addr) (H2:Hp),Same H' H2->H2 t'=some (.tup (List.replicate w .non))->Same H H2/\∃ ts':List Addr,ys++[V.ref t']=ts'.map V.ref/\Paired (λt r=>H2 t=some (.tup r)) ts' (List.replicate (i+1) (List.replicate w .non)):=λt' H2 s2 e2=>by
   refine⟨s.trans s2,ts++[t'],by rw[e,List.map_append];rfl,?_⟩
   rw[List.replicate_succ']
   exact Paired.snoc (Paired.mapP P λt r z=>s2 _ _ z) e2
  have s1:Same H' (upd H' t (.tup [V.non])):=λb o z=>by rw[AI (AS z ht)];exact z
  refine⟨t,w,[.non],rfl,rfl,SqT.of AK,by simp,by omega,by omega,GW _ (by simp;omega),λe1=> ?_,λe1 u hu=> ?_⟩
  ·have e1:w=1:=by omega
   refine fin t _ s1 ?_
   rw[AK,e1];rfl
  ·rw[Int.toNat_natCast,WQ]
   exact fin u _ (s1.trans λb o z=>by rw[AI (AS z hu)];exact z) AK
 ·have npc:p≠cl:=AS (s _ _ hp) hcl
  have e1:upd H' cl (HO.lst ys) p=some (HO.ins (a "Plank") dx []):=by rw[AI npc];exact s _ _ hp
  refine⟨_,_,_,e1,T.cl,T.nC,by decide,_,_,_,AK,T.cl,T.nW,PJ (by decide),_,_,_,AK,T.cl,T.nN,PJ (n:=1000) (Nat.succ_lt_succ (PJ (n:=999) (by decide))),?_⟩
  rw[tI,G3,G3]
  refine q cl _ (s.free hcl) ⟨⟨dx,AK⟩,⟨ts,by rw[AI npc.symm,AK,e],?_⟩,λr hr=> ?_,by simpa using hm,h2⟩ λb o eb hb=> ?_
  ·refine Paired.mapP P λt r z=> ?_
   rw[AI (A3 z (s _ _ hp) (by intro z';cases z')),AI (AS z hcl)]
   exact z
  ·rw[List.eq_of_mem_replicate hr,List.length_replicate]
  ·rw[AI hb,AI (AS (s _ _ eb) hcl)]
   exact s _ _ eb
theorem yP(h:F0 K a vs H Q E):RA K a (λ_=>E) (A7 Q) (A5 ["self"] vs) H:=by
 obtain⟨p,cl,w,rows,n,rfl,T,P,q⟩:=h
 obtain⟨dx,h1⟩:=P.ob
 obtain⟨ts,h2,h3⟩:=P.ls
 push_cast[RA,↓uB]
 refine⟨_,_,_,h1,T.cl,T.nC,_,NT _ _ _,rows.length,.inl ⟨_,SqL.of h2,?_⟩,q⟩
 rw[List.length_map,h3.length]
theorem yQ(h:LJ K a vs H Q E):RB K a (λ_=>E) (A7 Q) (A5 ["self"] vs) H:=by
 obtain⟨p,cl,w,rows,n,rfl,T,P,q⟩:=h
 obtain⟨dx,h1⟩:=P.ob
 push_cast[RB,↓uC]
 exact⟨_,_,_,h1,T.cl,T.nW,_,XR _ _ _,q⟩
theorem yR(h:F1 K a vs H Q E):RC K a (λ_=>E) (A7 Q) (A5 ["self","block"] vs) H:=by
 obtain⟨p,cl,w,rows,n,b,rfl,T,P,q,qe⟩:=h
 obtain⟨dx,h1⟩:=P.ob
 obtain⟨ts,h2,h3⟩:=P.ls
 push_cast[RC,↓uD,↓uE]
 have hl:rows.length=(ts.map V.ref).length:=by rw[List.length_map,h3.length]
 split
 ·rename_i h0
  refine⟨_,_,_,h1,T.cl,T.nC,_,NT _ _ _,rows.length,.inl ⟨_,SqL.of h2,hl⟩,?_⟩
  split
  ·exact⟨by decide,qe (by omega)⟩
  ·exact q h0 (by omega)
 ·exact⟨by decide,qe (by omega)⟩
theorem d8(cl:Addr)(w n:Int):(pf cl w n).lookup ("ask_for_block":Str)=none:=IX _ _ _ (by decide +kernel) (by decide +kernel) (by decide +kernel)
theorem yS(h:F2 K a vs H Q E):RW K a (λ_=>E) (A7 Q) (A5 ["self","block"] vs) H:=by
 obtain⟨p,cl,w,rows,n,b,rfl,T,P,q,qe⟩:=h
 obtain⟨dx,h1⟩:=P.ob
 obtain⟨ts,h2,h3⟩:=P.ls
 push_cast[RW,↓uT,↓uU,F1]
 refine⟨_,_,h1,d8 _ _ _,T,cl,w,rows,⟨n,P⟩,λh0 hb=>⟨_,_,_,h1,T.cl,T.nC,_,NT _ _ _,?_⟩,qe⟩
 obtain⟨i,rfl⟩:∃ i:Nat,b=i:=⟨b.toNat,by omega⟩
 have hi:i<rows.length:=by omega
 obtain⟨t,et,ht⟩:=LG h3 (List.getElem?_eq_getElem hi)
 refine BD (SqL.of h2) rfl (v:=.ref t) (by rw[List.getElem?_map,et];rfl) ?_
 rw[WP]
 exact⟨_,.inr (SqT.of ht),q i _ rfl (List.getElem?_eq_getElem hi)⟩
theorem yT(h:HK K a vs H Q E):RX K a (λ_=>E) (A7 Q) (A5 ["self","block","values"] vs) H:=by
 obtain⟨p,cl,w,rows,n,b,v,xs,rfl,T,P,hv,hx,q,qe⟩:=h
 obtain⟨dx,h1⟩:=P.ob
 obtain⟨ts,h2,h3⟩:=P.ls
 have npc:=P.ne
 push_cast[RX,↓uV,↓uW,↓uX,↓uY,↓uZ,F1]
 refine⟨_,_,h1,d8 _ _ _,T,cl,w,rows,⟨n,P⟩,λh0 hb=>⟨xs.length,.inl ⟨_,hv,rfl⟩,_,_,_,h1,T.cl,T.nW,_,XR _ _ _,?_⟩,λz=>qe (z.imp id .inl)⟩
 obtain⟨i,rfl⟩:∃ i:Nat,b=i:=⟨b.toNat,by omega⟩
 have hi:i<rows.length:=by omega
 push_cast[]
 split
 ·exact⟨by decide,qe (.inr (.inr (by omega)))⟩
 ·rename_i hw
  have hw:xs.length=w:=by omega
  refine⟨xs,.inl ⟨hv,λt ht=> ?_⟩⟩
  have ntp:p≠t:=AS h1 ht
  have ntc:cl≠t:=AS h2 ht
  refine⟨_,_,_,by rw[AI ntp];exact h1,T.cl,T.nC,_,NT _ _ _,?_⟩
  refine⟨cl,ts.map V.ref,(i:Int),i,rfl,rfl,by rw[AI ntc];exact h2,?_,?_⟩
  ·unfold ES
   rw[if_pos (by omega),if_pos (by rw[List.length_map,h3.length];omega),Int.toNat_natCast]
  ·refine⟨_,_,_,by rw[AI npc,AI ntp];exact h1,T.cl,T.nN,_,tH _ _ _,?_⟩
   push_cast[]
   refine⟨_,_,by rw[AI npc,AI ntp];exact h1,by show 3<1000;decide,?_⟩
   rw[tJ]
   refine q i rfl hi hw _ ⟨⟨dx,AK⟩,⟨ts.set i t,?_,?_⟩,λr hr=> ?_,by rw[List.length_set];exact P.sz,P.sw⟩ λx o ex hxn=> ?_
   ·rw[AI npc.symm,AK,List.map_set]
   ·have keep:∀ u r,H u=some (.tup r)->upd (upd (upd H t (.tup xs)) cl (.lst ((ts.map V.ref).set i (.ref t)))) p (.ins (a "Plank") dx (pf cl w ((n:Int)+1))) u=some (.tup r):=λu r hu=>by
     rw[AI (A3 hu h1 (by intro z;cases z)),AI (A3 hu h2 (by intro z;cases z)),AI (AS hu ht)]
     exact hu
    refine PH ?_ i (Paired.mapP h3 keep)
    rw[AI ntp.symm,AI ntc.symm,AK]
   ·rcases List.mem_or_eq_of_mem_set hr with z | z
    ·exact P.wd r z
    ·rw[z];exact hw
   ·have hxn:x≠p/\x≠cl:=⟨λz=>hxn (.inl z),λz=>hxn (.inr z)⟩
    rw[AI hxn.1,AI hxn.2,AI (AS ex ht)]
    exact ex
theorem TC(cl:Addr)(w n:Int):(pf cl w n).lookup ("read":Str)=none:=IX _ _ _ (by decide +kernel) (by decide +kernel) (by decide +kernel)
theorem d9(cl:Addr)(w n:Int):(pf cl w n).lookup ("write":Str)=none:=IX _ _ _ (by decide +kernel) (by decide +kernel) (by decide +kernel)
theorem yU(h:IY K a vs H Q E):vs.length=3:=by
 obtain⟨_,_,_,_,rfl,_⟩:=h
 rfl
theorem yV(h:F0 K a vs H Q E):vs.length=1:=by
 obtain⟨_,_,_,_,_,rfl,_⟩:=h
 rfl
theorem yW(h:LJ K a vs H Q E):vs.length=1:=by
 obtain⟨_,_,_,_,_,rfl,_⟩:=h
 rfl
theorem yX(h:F1 K a vs H Q E):vs.length=2:=by
 obtain⟨_,_,_,_,_,_,rfl,_⟩:=h
 rfl
theorem yY(h:F2 K a vs H Q E):vs.length=2:=by
 obtain⟨_,_,_,_,_,_,rfl,_⟩:=h
 rfl
theorem yZ(h:HK K a vs H Q E):vs.length=3:=by
 obtain⟨_,_,_,_,_,_,_,_,rfl,_⟩:=h
 rfl
theorem y0(h:BZ K a vs H Q E):RE K a (λ_=>E) (A7 Q) (A5 ["cell","prime","many","low"] vs) H:=by
 obtain⟨c,p,m,rfl,h0,h1,h2,q⟩:=h
 push_cast[RE,↓uI,↓uJ]
 have b1:=Int.emod_nonneg (c+p / 3) (show p≠0 by omega)
 have b2:=Int.emod_lt_of_pos (c+p / 3) h0
 unfold BX at q
 revert b1 b2 q
 generalize (c+p / 3) % p=low
 intro q b1 b2
 have b3:=Int.emod_nonneg (low * low) (show p≠0 by omega)
 have b4:=Int.emod_lt_of_pos (low * low) h0
 exact⟨⟨by decide,by decide⟩,h0,.inl ⟨by omega,by omega⟩,h0,.inl ⟨by omega,by omega⟩,h0,h2,q⟩
theorem y9(h:F5 K a vs H Q E):RD K a (λ_=>E) (A7 Q) (A5 ["script","k"] vs) H:=by
 obtain⟨s,ns,k,rfl,hs,hl,q⟩:=h
 push_cast[RD,↓uF,↓uG,↓uH]
 refine⟨ns.length,?_,?_⟩
 ·exact .inl ⟨_,hs,(List.length_map _).symm⟩
 split
 ·rename_i hk
  have hk:k<ns.length:=by omega
  refine BD hs rfl (v:=.int (HN ns k)) ?_ q
  unfold HN
  rw[List.getElem?_map,List.getElem?_eq_getElem hk]
  simp[List.getD,hk]
 ·rename_i hk
  have:HN ns k=0:=by
   unfold HN
   rw[List.getD_eq_getElem?_getD,List.getElem?_eq_none (by omega)];rfl
  rw[this]at q
  exact q
theorem zA(h:BZ K a vs H Q E):vs.length=3:=by
 obtain⟨_,_,_,rfl,_⟩:=h
 rfl
theorem zB(h:F5 K a vs H Q E):vs.length=2:=by
 obtain⟨_,_,_,rfl,_⟩:=h
 rfl
theorem ED{f:Str}{v:V}{fs:List (Str × V)}{n:Nat}(h:fs.length<n):(A0 f v fs).length<n+1:=Nat.lt_of_le_of_lt (MU f v fs) (Nat.succ_lt_succ h)
theorem SameBut.none{b:Addr}{H H1:Hp}{x:Addr}(s:SameBut (· =b) H H1)(hb:H1 b≠Option.none)(h:H1 x=Option.none):H x=Option.none:=by
 cases e:H x with
 | none=>rfl
 | some o =>
  have:x≠b:=λz=>hb (z ▸ h)
  rw[s _ _ e this]at h
  cases h
theorem zC(h:LO K a vs H Q E):QU K a (λ_=>E) (A7 Q) (A5 ["self","place","value","needs"] vs) H:=by
 obtain⟨x,dx,pl,v,nt,rfl,T,hx,q⟩:=h
 push_cast[QU,↓tZ,↓t3,↓t4]
 refine⟨_,_,_,hx,T.cc,T.nP,by decide,_,_,_,AK,T.cc,T.nV,ED (n:=999) (by decide),_,_,_,AK,T.cc,T.nN,ED (n:=999) (ED (n:=998) (by decide)),?_⟩
 rw[tM,G3,G3]
 exact q
theorem zD(h:LO K a vs H Q E):vs.length=4:=by
 obtain⟨_,_,_,_,_,rfl,_⟩:=h
 rfl
theorem zE(h:HP K a vs H Q E):RG K a (λ_=>E) (A7 Q) (A5 ["self","plank"] vs) H:=by
 obtain⟨b,gp,cl,dx,w,rows,n,rfl,T,TP,P,hb,q⟩:=h
 push_cast[RG,↓uL,↓uM,↓uN,↓uO,↓uP]
 refine⟨_,_,_,hb,T.cl,T.nG,by decide,by decide,?_⟩
 have e1:upd H b (.ins (DF a) dx (A0 "ground" (.ref gp) [])) b=some (.ins (DF a) dx (A0 "ground" (.ref gp) [])):=AK
 have s1:SameBut (· =b) H (upd H b (.ins (DF a) dx (A0 "ground" (.ref gp) []))):=λx o e n=>by rw[AI n];exact e
 revert e1 s1
 generalize upd H b (.ins (DF a) dx (A0 "ground" (.ref gp) []))=H1
 intro e1 s1 m hm
 have nbm:b≠m:=AS e1 hm
 have hmH:=s1.none (by rw[e1];intro z;cases z) hm
 refine⟨_,_,_,by rw[AI nbm];exact e1,T.cl,T.nM,ED (n:=999) (by decide),?_⟩
 have s2:SameBut (· =b) H (upd (upd H1 m (.lst [])) b (.ins (DF a) dx (A0 "made" (.ref m) (A0 "ground" (.ref gp) [])))):=(s1.upd (.inr hmH)).upd (.inl rfl)
 have e2:upd (upd H1 m (.lst [])) b (.ins (DF a) dx (A0 "made" (.ref m) (A0 "ground" (.ref gp) []))) b=some (.ins (DF a) dx (A0 "made" (.ref m) (A0 "ground" (.ref gp) []))):=AK
 have m2:upd (upd H1 m (.lst [])) b (.ins (DF a) dx (A0 "made" (.ref m) (A0 "ground" (.ref gp) []))) m=some (.lst []):=by rw[AI nbm.symm,AK]
 revert s2 e2 m2
 generalize upd (upd H1 m (.lst [])) b (.ins (DF a) dx (A0 "made" (.ref m) (A0 "ground" (.ref gp) [])))=H2
 intro s2 e2 m2
 have gb:∀ x xs,(· =b) x->H x≠some (.tup xs):=λx xs e=>by rw[show x=b from e,hb];intro z;cases z
 have ncl:¬ cl=b:=by obtain⟨ts,z,_⟩:=P.ls;exact A3 z hb (by intro z;cases z)
 have P2:PlankAt a H2 gp cl w rows n:=by
  obtain⟨⟨dx',f1⟩,⟨ts,f2,f3⟩,r1,r2,r3⟩:=P
  exact⟨⟨dx',s2 _ _ f1 (A3 f1 hb (NU (by simp[pf])))⟩,⟨ts,s2 _ _ f2 (A3 f2 hb (by intro z;cases z)),Paired.mapP f3 λt r z=>s2 _ _ z (A3 z hb (by intro z;cases z))⟩,r1,r2,r3⟩
 obtain⟨dp,hp⟩:=P2.ob
 refine⟨_,_,hp,IX _ _ _ (by decide +kernel) (by decide +kernel) (by decide +kernel),gp,cl,w,rows,n,rfl,TP,P2,rows.length,rfl,by omega,by have:=P.sz;omega,?_⟩
 rw[Int.toNat_natCast]
 refine LF (GW _ (by have:=P.sz;omega)) (λi ys H'=>Same H2 H'/\∃ ls:List Addr,ys=ls.map V.ref/\ls.Nodup/\∀ l∈ls,H' l=some (.lst [])/\H2 l=none) ⟨Same.refl _,[],rfl,List.nodup_nil,by simp⟩ (λi ys H' hi hl ⟨s,ls,ey,nd,al⟩=> ?_) (λys H' hl ⟨s,ls,ey,nd,al⟩ mi hmi=> ?_)
 ·push_cast[]
  refine⟨by decide,λl hl'=>⟨s.trans (AX hl'),ls++[l],by rw[ey,List.map_append];rfl,?_,λx hx=> ?_⟩⟩
  ·exact List.nodup_append.mpr ⟨nd,by simp,λx hx y hy e=>by rw[List.mem_singleton]at hy;subst hy;subst e;rw[(al _ hx).1]at hl';cases hl'⟩
  ·rcases List.mem_append.mp hx with hx | hx
   ·exact⟨AX hl' _ _ (al x hx).1,(al x hx).2⟩
   ·rw[List.mem_singleton.mp hx];exact⟨AK,s.free hl'⟩
 ·have s3:SameBut (· =b) H (upd H' mi (.lst ys)):=by
   intro x o e nx
   have e':=s _ _ (s2 _ _ e nx)
   rw[AI (AS e' hmi)];exact e'
  have e3:upd H' mi (.lst ys) b=some (.ins (DF a) dx (A0 "made" (.ref m) (A0 "ground" (.ref gp) []))):=by rw[AI (AS (s _ _ e2) hmi)];exact s _ _ e2
  have m3:upd H' mi (.lst ys) m=some (.lst []):=by rw[AI (AS (s _ _ m2) hmi)];exact s _ _ m2
  have i3:upd H' mi (.lst ys) mi=some (.lst (ls.map V.ref)):=by rw[AK,ey]
  have l3:∀ l∈ls,upd H' mi (.lst ys) l=some (.lst [])/\H l=none/\l≠mi/\l≠m:=λl hl'=>by
   have z:=al l hl'
   have n1:=AS z.1 hmi
   exact⟨by rw[AI n1];exact z.1,s2.none (by rw[e2];intro z;cases z) z.2,n1,λy=>by rw[y,m2]at z;cases z.2⟩
  have hmiH:H mi=none:=s2.none (by rw[e2];intro z;cases z) (s.free hmi)
  have nmm:m≠mi:=AS (s _ _ m2) hmi
  have hlen:ls.length=rows.length:=by rw[<-hl,ey,List.length_map]
  revert s3 e3 m3 i3 l3
  generalize upd H' mi (.lst ys)=H3
  intro s3 e3 m3 i3 l3
  refine⟨_,_,_,e3,T.cl,T.nI,ED (n:=999) (ED (n:=998) (by decide)),λlt hlt=> ?_⟩
  have nb4:b≠lt:=AS AK hlt
  rw[AI nb4.symm]at hlt
  have ltH:H lt=none:=s3.none (by rw[e3];intro z;cases z) hlt
  refine⟨_,_,_,by rw[AI nb4,AK],T.cl,T.nL,ED (n:=999) (ED (n:=998) (ED (n:=997) (by decide))),λou hou=> ?_⟩
  have nb5:b≠ou:=AS AK hou
  rw[AI nb5.symm]at hou
  have nl5:lt≠ou:=AS AK hou
  rw[AI nl5.symm,AI nb5.symm]at hou
  have ouH:H ou=none:=s3.none (by rw[e3];intro z;cases z) hou
  refine⟨_,_,_,by rw[AI nb5,AK],T.cl,T.nO,ED (n:=999) (ED (n:=998) (ED (n:=997) (ED (n:=996) (by decide)))),?_⟩
  rw[tN]
  generalize eH:upd (upd (upd (upd (upd H3 b _) lt (.dT [])) b _) ou (.dK [])) b (.ins (DF a) dx (bf gp m mi lt ou))=H5
  have kp:∀ x,x≠b->x≠lt->x≠ou->H5 x=H3 x:=λx n1 n2 n3=>by rw[<-eH,AI n1,AI n3,AI n1,AI n2,AI n1]
  have kk:∀ x o,H3 x=some o->x≠b->H5 x=some o:=λx o e n1=>by rw[kp x n1 (AS e hlt) (AS e hou)];exact e
  have s5:SameBut (· =b) H H5:=λx o e n1=>kk x o (s3 _ _ e n1) n1
  have nbx:∀ x xs,H3 x=some (.lst xs)->x≠b:=λx xs e=>A3 e e3 (by intro z;cases z)
  refine q m mi lt ou ls H5 hmH hmiH ltH ouH (λl hl'=>(l3 l hl').2.1) ⟨⟨⟨dx,by rw[<-eH,AK]⟩,⟨[],kk _ _ m3 (nbx _ _ m3),.nil⟩,kk _ _ i3 (nbx _ _ i3),λi l e=> ?_,nd,⟨[],?_,λi j=>rfl,Nat.le_refl _⟩,⟨[],?_,λk=>rfl,List.nodup_nil,by simp⟩,by simp,by simp,by simp,⟨nmm,?_,?_,?_,?_,?_⟩,by simp⟩,?_,hlen⟩ s5
  ·have z:=l3 l (List.mem_of_getElem? e)
   exact kk _ _ z.1 (nbx _ _ z.1)
  ·rw[<-eH,AI nb4.symm,AI nl5,AI nb4.symm,AK]
  ·rw[<-eH,AI nb5.symm,AK]
  ·exact λz=>(l3 _ z).2.2.2 rfl
  ·exact λz=>(l3 _ z).2.2.1 rfl
  ·obtain⟨ts,z,_⟩:=P.ls;exact AS z hmH
  ·obtain⟨ts,z,_⟩:=P.ls;exact AS z hmiH
  ·obtain⟨ts,z,_⟩:=P.ls;exact λy=>by rw[(l3 _ y).2.1]at z;cases z
  ·obtain⟨⟨dx',f1⟩,⟨ts,f2,f3⟩,r1,r2,r3⟩:=P
   exact⟨⟨dx',s5 _ _ f1 (A3 f1 hb (NU (by simp[pf])))⟩,⟨ts,s5 _ _ f2 (A3 f2 hb (by intro z;cases z)),Paired.mapP f3 λt r z=>s5 _ _ z (A3 z hb (by intro z;cases z))⟩,r1,r2,r3⟩
theorem zF(h:HP K a vs H Q E):vs.length=2:=by
 obtain⟨_,_,_,_,_,_,_,rfl,_⟩:=h
 rfl
theorem zG(h:LP K a vs H Q E):N2 K a (λ_=>E) (A7 Q) (A5 ["needs","ahead"] vs) H:=by
 obtain⟨nl,ns,o,rfl,hs,hl,q⟩:=h
 cases o with
 | none =>
  push_cast[N2,↓YT,↓YV,↓YX,JE]
  refine⟨ns,hs,by omega,λx o D ks hx hD r m l=>⟨_,.inl ⟨SqL.of AK,λt ht=>q t ks _ (((AX hx).trans (AX hD)).trans (AX ht)) AK r (λy=> ?_) (by omega)⟩⟩⟩
  rw[m y];simp
 | some k =>
  push_cast[N2,↓YT,↓YV,↓YX,JE]
  refine⟨_,.inl hs,λl hl'=>⟨by decide,λp hp=>.inl ?_⟩⟩
  have np:l≠p:=AS AK hp
  have s0:Same H (upd (upd H l (.lst (ns.map V.int))) p (.lst [.int k])):=(AX hl').trans (AX hp)
  have e1:upd (upd H l (.lst (ns.map V.int))) p (.lst [.int k]) l=some (.lst (ns.map V.int)):=by rw[AI np,AK]
  have e2:upd (upd H l (.lst (ns.map V.int))) p (.lst [.int k]) p=some (.lst [.int k]):=AK
  revert s0 e1 e2
  generalize upd (upd H l (.lst (ns.map V.int))) p (.lst [.int k])=H1
  intro s0 e1 e2
  refine⟨l,p,_,_,rfl,rfl,e1,e2,GW _ (by simp;omega),λr hr=>⟨r,rfl,ns++[(k:Int)],?_,by simp;omega,λx o D ks hx hD rs m ll=>⟨_,.inl ⟨SqL.of AK,λt ht=>q t ks _ ((((s0.trans (AX hr)).trans (AX hx)).trans (AX hD)).trans (AX ht)) AK rs (λy=> ?_) (by simpa using ll)⟩⟩⟩⟩
  ·rw[List.map_append];exact SqL.of AK
  ·rw[m y,List.mem_append,List.mem_singleton];simp
theorem zH(h:LP K a vs H Q E):vs.length=2:=by
 obtain⟨_,_,_,rfl,_⟩:=h
 rfl
theorem zI(h:LQ K a vs H Q E):RI K a (λ_=>E) (A7 Q) (A5 ["self","place"] vs) H:=by
 obtain⟨A,w,rows,n,cs,outs,pl,i,j,rfl,T,TP,B,hp,q,qe⟩:=h
 obtain⟨dx,hb⟩:=B.bk.ob
 obtain⟨dp,hg⟩:=B.pk.ob
 have ng:∀ {m:Str},¬ m="contents"->¬ m="width"->¬ m="written"->(pf A.cl w n).lookup m=none:=λh1 h2 h3=>IX _ _ _ h1 h2 h3
 push_cast[RI,↓uR,↓uS]
 refine BH hp (n:=0) rfl rfl ?_
 push_cast[]
 split
 ·rename_i h0
  refine⟨_,_,_,hb,T.cl,T.nG,_,JA,A.gp,rfl,_,_,hg,ng (by decide +kernel) (by decide +kernel) (by decide +kernel),A.gp,A.cl,w,rows,n,rfl,TP,B.pk,?_⟩
  push_cast[]
  split
  ·exact⟨by decide,qe λz=>by omega⟩
  ·rename_i h1
   refine BH hp (n:=1) rfl rfl ?_
   push_cast[]
   split
   ·rename_i h2
    refine⟨_,_,_,hb,T.cl,T.nG,_,JA,A.gp,rfl,_,_,hg,ng (by decide +kernel) (by decide +kernel) (by decide +kernel),A.gp,A.cl,w,rows,n,rfl,TP,B.pk,?_⟩
    push_cast[]
    split
    ·exact⟨by decide,qe λz=>by omega⟩
    ·exact q ⟨h0,by omega,h2,by omega⟩
   ·exact⟨by decide,qe λz=>by omega⟩
 ·exact⟨by decide,qe λz=>by omega⟩
theorem zJ(h:LQ K a vs H Q E):vs.length=2:=by
 obtain⟨_,_,_,_,_,_,_,_,_,rfl,_⟩:=h
 rfl
theorem zK(h:HQ K a vs H Q E):SC K a (λ_=>E) (A7 Q) (A5 ["self","place"] vs) H:=by
 obtain⟨A,w,rows,n,cs,outs,pl,i,j,rfl,T,TP,B,hp,q,qe⟩:=h
 obtain⟨dx,hb⟩:=B.bk.ob
 obtain⟨kvs,hl,hv,_⟩:=B.bk.lat
 push_cast[SC,↓vA,↓vB]
 refine⟨_,_,hb,CO (by decide +kernel),A,w,rows,n,cs,outs,pl,i,j,rfl,T,TP,B,hp,λh=> ?_,qe⟩
 push_cast[]
 refine⟨_,_,_,hb,T.cl,T.nL,_,XX,A.lt,rfl,.inr ⟨_,.inl hl⟩,_,sL hl hp,?_⟩
 rw[hv]
 have:=q h
 cases e:CA cs i j with
 | none=>rw[e]at this;exact this
 | some k=>rw[e]at this;exact this
theorem zL(h:HQ K a vs H Q E):vs.length=2:=by
 obtain⟨_,_,_,_,_,_,_,_,_,rfl,_⟩:=h
 rfl
theorem BookIn.len{C D:Addr}{A:BA}{w:Nat}{cs:List Ch}{outs:Int->Bool}(B:BookIn C D H A w cs outs):∃ xs,H A.m=some (.lst xs)/\xs.length=cs.length:=by
 obtain⟨chs,e,p⟩:=B.made
 exact⟨_,e,by rw[List.length_map,p.length]⟩
theorem zM(h:LR K a vs H Q E):QX K a (λ_=>E) (A7 Q) (A5 ["self","numbers","number"] vs) H:=by
 obtain⟨A,w,rows,n,cs,outs,nl,ns,rfl,T,B,hs,q,qe⟩:=h
 obtain⟨dx,hb⟩:=B.bk.ob
 obtain⟨xs,hm,hml⟩:=B.bk.len
 push_cast[QX,↓YM,↓YO,↓YR]
 refine .inl ⟨⟨_,hs⟩,?_⟩
 refine GU (xs:=ns.map V.int) (λi σ H'=>H'=H/\(∃ z,σ=[some (.ref A.b),some (.ref nl),z])/\∀ x∈ns.take i,known cs x) ⟨rfl,⟨_,rfl⟩,by simp⟩ (λi σ H' _ ⟨e,_⟩=>e ▸ hs) (λi x σ H' hx ⟨e,⟨z,ez⟩,kn⟩=> ?_) (λσ H' ⟨e,⟨z,ez⟩,kn⟩=> ?_)
 ·subst e;subst ez
  rw[List.getElem?_map,Option.map_eq_some_iff]at hx
  obtain⟨x',hx',rfl⟩:=hx
  push_cast[↓YM,↓YO,↓YR]
  have bad:¬ known cs x'->1<=sizeLine/\E (.ref (a "NoChange")) none H':=λh=>⟨by decide,qe ⟨x',List.mem_of_getElem? hx',h⟩⟩
  split
  ·rename_i h0
   refine⟨_,_,_,hb,T.cl,T.nM,_,F4,cs.length,.inl ⟨_,SqL.of hm,hml.symm⟩,?_⟩
   split
   ·exact bad λz=>by omega
   ·intro y hy
    rw[List.take_add_one,hx']at hy
    rcases List.mem_append.mp hy with hy | hy
    ·exact kn y hy
    ·simp only[Option.toList_some,List.mem_singleton]at hy
     subst hy
     exact⟨h0,by omega⟩
  ·exact bad λz=>by omega
 ·subst e
  refine q λx hx=>kn x ?_
  rw[List.length_map,List.take_length];exact hx
theorem zN(h:LR K a vs H Q E):vs.length=2:=by
 obtain⟨_,_,_,_,_,_,_,_,rfl,_⟩:=h
 rfl
theorem zO(h:EC K a vs H Q E):QV K a (λ_=>E) (A7 Q) (A5 ["self"] vs) H:=by
 obtain⟨A,w,rows,n,cs,outs,rfl,T,B,q⟩:=h
 obtain⟨dx,hb⟩:=B.bk.ob
 obtain⟨xs,hm,hml⟩:=B.bk.len
 obtain⟨kvo,ho,hv,_⟩:=B.bk.out
 have sz:=B.bk.sz
 push_cast[QV,↓t5]
 refine⟨_,_,_,hb,T.cl,T.nM,_,F4,cs.length,.inl ⟨_,SqL.of hm,hml.symm⟩,by omega,by omega,?_⟩
 refine sA (λ(k:Nat)=> !outs k) (GW _ (by omega)) (λi hi QB qb=> ?_) λp hp=> ?_
 ·push_cast[FZ]
  refine⟨_,_,_,hb,T.cl,T.nO,_,LK,A.ou,rfl,_,dI ho,?_⟩
  rw[hv];exact qb
 ·exact q p _ hp (AX hp) (by rw[AK];rfl)
theorem zP(h:EC K a vs H Q E):vs.length=1:=by
 obtain⟨_,_,_,_,_,_,rfl,_⟩:=h
 rfl
theorem zQ(h:LS K a vs H Q E):SL K a (λ_=>E) (A7 Q) (A5 ["self","place","value","needs","ahead","number"] vs) H:=by
 obtain⟨A,w,rows,n,cs,outs,pl,nl,v,ns,i,j,rfl,T,TP,B,hp,hs,hl,hc,q,q1,q2⟩:=h
 obtain⟨dx,hb⟩:=B.bk.ob
 obtain⟨xs,hm,hml⟩:=B.bk.len
 push_cast[SL,↓v7]
 refine⟨_,_,hb,CO (by decide +kernel),A,w,rows,n,cs,outs,pl,i,j,rfl,T,TP,B,hp,λhon=> ?_,q1⟩
 push_cast[↓v8]
 refine⟨_,_,hb,CO (by decide +kernel),A,w,rows,n,cs,outs,nl,ns,rfl,T,B,hs,λhkn=> ?_,q2 hon⟩
 push_cast[↓v9]
 refine⟨_,_,_,hb,T.cl,T.nM,_,F4,cs.length,.inl ⟨_,SqL.of hm,hml.symm⟩,?_⟩
 push_cast[↓wA]
 refine⟨_,_,_,hb,T.cl,T.nM,_,F4,.inl ⟨rfl,_,SqL.of hm⟩,nl,ns,CA cs i j,rfl,hs,hl,λt ks H1 s1 et kr km kl=> ?_⟩
 push_cast[]
 intro x dy hx hdy ndy
 refine⟨x,dy,pl,v,t,rfl,T,AK,rfl,?_⟩
 rw[G3]
 have s2:Same H1 (upd (upd H1 dy (.own x)) x (.ins (a "Change") dy (DW pl v t))):=(AX hdy).trans (AX (by rw[AI ndy.symm];exact hx))
 have ex:upd (upd H1 dy (.own x)) x (.ins (a "Change") dy (DW pl v t)) x=some (.ins (a "Change") dy (DW pl v t)):=AK
 revert s2 ex
 generalize upd (upd H1 dy (.own x)) x (.ins (a "Change") dy (DW pl v t))=H2
 intro s2 ex
 have s:=s1.trans s2
 have hxH:H x=none:=s1.free hx
 replace et:=s2 _ _ et
 obtain⟨chs,hm',pch⟩:=B.bk.made
 have hmi:=B.bk.mil
 obtain⟨kvs,hlt,hv,hkl⟩:=B.bk.lat
 obtain⟨kvo,hou,hvo,hko⟩:=B.bk.out
 obtain⟨i0,i1,j0,j1⟩:=hon
 obtain⟨i',rfl⟩:∃ i':Nat,i=i':=⟨i.toNat,by omega⟩
 obtain⟨j',rfl⟩:∃ j':Nat,j=j':=⟨j.toNat,by omega⟩
 have hil:i'<A.ls.length:=by rw[B.nb];omega
 have el:=List.getElem?_eq_getElem hil
 have hll:=B.bk.mic i' _ el
 have hmem:A.ls[i']∈A.ls:=List.getElem_mem hil
 revert el hll hmem
 generalize A.ls[i']=l
 intro el hll hmem
 have ap:=B.bk.ap
 have nml:A.m≠l:=λz=>ap.2.1 (z ▸ hmem)
 have nil':A.mi≠l:=λz=>ap.2.2.1 (z ▸ hmem)
 have ncl:A.cl≠l:=λz=>ap.2.2.2.2.2 (z ▸ hmem)
 have klt:∀ {y:Addr} {o:HO},H2 y=some o->(∀ k,o≠.dT k)->y≠A.lt:=λe h=>A3 e (s _ _ hlt) (h _)
 have km':∀ {y:Addr} {o:HO},H2 y=some o->(∀ k,o≠.lst k)->y≠A.m:=λe h=>A3 e (s _ _ hm') (h _)
 have kll:∀ {y:Addr} {o:HO},H2 y=some o->(∀ k,o≠.lst k)->y≠l:=λe h=>A3 e (s _ _ hll) (h _)
 have hb2:=s _ _ hb
 have hp2:=s _ _ hp
 have sz:=B.bk.sz
 have lenc:chs.length=cs.length:=pch.length
 refine⟨A.m,_,_,rfl,rfl,s _ _ hm',Nat.lt_of_lt_of_le (show(chs.map V.ref).length<1000 by rw[List.length_map];omega) (by decide),?_⟩
 push_cast[↓wB]
 have bb:A.b≠A.m:=km' hb2 (by intro k z;cases z)
 have bl:A.b≠l:=kll hb2 (by intro k z;cases z)
 have bt:A.b≠A.lt:=klt hb2 (by intro k z;cases z)
 have pm:pl≠A.m:=km' hp2 (by intro k z;cases z)
 have pl':pl≠l:=kll hp2 (by intro k z;cases z)
 have pt:pl≠A.lt:=klt hp2 (by intro k z;cases z)
 have lt':l≠A.lt:=klt (s _ _ hll) (by intro k z;cases z)
 have mt:A.m≠A.lt:=klt (s _ _ hm') (by intro k z;cases z)
 have it:A.mi≠A.lt:=klt (s _ _ hmi) (by intro k z;cases z)
 refine⟨_,_,_,by rw[AI bb];exact hb2,T.cl,T.nI,_,QI,BH (by rw[AI pm];exact hp2) (n:=0) rfl rfl (BD (SqL.of (by rw[AI ap.1.symm];exact s _ _ hmi)) (n:=i') (v:=.ref l) rfl (by rw[List.getElem?_map,el];rfl) ⟨.inl ⟨rfl,_,SqL.of (by rw[AI nml.symm];exact s _ _ hll)⟩,?_⟩)⟩
 have bln:=XU cs i'
 refine⟨l,_,_,rfl,rfl,by rw[AI nml.symm];exact s _ _ hll,Nat.lt_of_lt_of_le (show((BM cs i').map λ(k:Nat)=>V.int k).length<1000 by rw[List.length_map];omega) (by decide),?_⟩
 push_cast[↓wC,↓wD]
 refine⟨_,_,_,by rw[AI bl,AI bb];exact hb2,T.cl,T.nL,_,XX,A.lt,rfl,_,XF (by rw[AI lt'.symm,AI mt.symm];exact s _ _ hlt) (by rw[AI pl',AI pm];exact hp2) (by omega),?_⟩
 generalize eH:upd (upd (upd H2 A.m _) l _) A.lt (.dT (BT kvs [.inl ↑i',.inl ↑j'] (.int ↑cs.length)))=H5
 have kp:∀ y,y≠A.m->y≠l->y≠A.lt->H5 y=H2 y:=λy n1 n2 n3=>by rw[<-eH,AI n3,AI n2,AI n1]
 have s5:SameBut (λy=>y=A.m\/y=l\/y=A.lt) H H5:=λy o e ny=>by
  rw[kp y (λz=>ny (.inl z)) (λz=>ny (.inr (.inl z))) (λz=>ny (.inr (.inr z)))]
  exact s _ _ e
 have lo:∀ y,(y=A.m\/y=l\/y=A.lt)->CP (H y):=by
  rintro y (z | z | z)
  ·exact B.loose (.inl z)
  ·exact B.loose (.inr (.inr (.inl (z ▸ hmem))))
  ·exact B.loose (.inr (.inr (.inr (.inl z))))
 have hnd:∀ y∈ks,0<=y/\y<cs.length:=λy hy=>by
  rcases(km y).mp hy with h | ⟨k,e,rfl⟩
  ·exact hkn y h
  ·exact⟨by omega,by have:=QF e;omega⟩
 refine q ⟨i0,i1,j0,j1⟩ hkn ks H5 kr km ⟨⟨⟨dx,by rw[kp _ bb bl bt];exact hb2⟩,⟨chs++[x],?_,Paired.snoc (Paired.mapP pch λy c h=>h.sb s5 lo) ⟨dy,pl,t,?_,?_,?_⟩⟩,?_,λk l' e=> ?_,B.bk.nd,⟨BT kvs [.inl ↑i',.inl ↑j'] (.int ↑cs.length),?_,λp q=> ?_,?_⟩,⟨kvo,?_,hvo,?_⟩,?_,λc hc'=> ?_,λk c e=> ?_,ap,λk c e j ej=> ?_⟩,B.pk.sbL s5 lo ?_,B.nb⟩ (s5.wide λy z=> ?_)
 ·rw[<-eH,AI mt,AI nml,AK,List.map_append];rfl
 ·rw[kp x (km' ex (by intro k z;cases z)) (kll ex (by intro k z;cases z)) (klt ex (by intro k z;cases z))];exact ex
 ·rw[kp pl pm pl' pt];exact hp2
 ·rw[kp t (km' et (by intro k z;cases z)) (kll et (by intro k z;cases z)) (klt et (by intro k z;cases z))];exact et
 ·rw[kp _ ap.1.symm nil' it];exact s _ _ hmi
 ·rw[XS]
  by_cases z:l'=l
  ·subst z
   have ek:k=i':=by
    obtain⟨h1,h2⟩:=List.getElem?_eq_some_iff.mp e
    obtain⟨h3,h4⟩:=List.getElem?_eq_some_iff.mp el
    exact(List.getElem_inj B.bk.nd).mp (h2.trans h4.symm)
   subst ek
   rw[<-eH,AI lt',AK]
   simp
  ·have nk:¬ i'=k:=λy=>by subst y;rw[el]at e;cases e;exact z rfl
   have hl':=B.bk.mic k l' e
   rw[kp l' (λy=>ap.2.1 (y ▸ List.mem_of_getElem? e)) z (klt (s _ _ hl') (by intro k z;cases z))]
   simp only[Int.toNat_natCast,if_neg nk]
   exact s _ _ hl'
 ·rw[<-eH,AK]
 ·rw[M3,NV]
  by_cases z:p=i'/\q=j'
  ·obtain⟨rfl,rfl⟩:=z
   simp
  ·have z1:¬ ([Sum.inl p,Sum.inl q]:List AN)=[.inl ↑i',.inl ↑j']:=λy=>z (by simpa using y)
   have z2:¬ ((((i':Int).toNat:Nat):Int)=p/\(((j':Int).toNat:Nat):Int)=q):=λy=>z ⟨by omega,by omega⟩
   rw[if_neg z1,if_neg z2]
   exact hv p q
 ·have:=IM kvs [.inl ↑i',.inl ↑j'] (.int ↑cs.length)
  simp;omega
 ·rw[kp _ (km' (s _ _ hou) (by intro k z;cases z)) (kll (s _ _ hou) (by intro k z;cases z)) (klt (s _ _ hou) (by intro k z;cases z))];exact s _ _ hou
 ·exact hko.mono (by simp)
 ·simp;omega
 ·rcases List.mem_append.mp hc' with h | h
  ·exact B.bk.inn c h
  ·rw[List.mem_singleton.mp h]
   exact⟨by rw[Int.toNat_natCast];exact hil,(show(j':Int).toNat<w by omega)⟩
 ·rcases Nat.lt_or_ge k cs.length with h | h
  ·rw[List.getElem?_append_left h]at e
   exact B.bk.need k c e
  ·rw[List.getElem?_append_right h]at e
   have:k - cs.length=0:=by
    rcases Nat.eq_zero_or_pos (k - cs.length)with z | z
    ·exact z
    ·rw[List.getElem?_eq_none (by simp;omega)]at e;cases e
   rw[this]at e
   cases e
   exact⟨λy hy=>⟨(hnd y hy).1,by have:=(hnd y hy).2;omega⟩,kr,(show ks.length<=100 by omega)⟩
 ·rcases Nat.lt_or_ge k cs.length with h | h
  ·rw[List.getElem?_append_left h]at e
   rw[List.take_append_of_le_length (by omega)]at ej
   exact B.bk.chn k c e j ej
  ·rw[List.getElem?_append_right h]at e
   have:k - cs.length=0:=by
    rcases Nat.eq_zero_or_pos (k - cs.length)with z | z
    ·exact z
    ·rw[List.getElem?_eq_none (by simp;omega)]at e;cases e
   have hk:k=cs.length:=by omega
   subst hk
   rw[this]at e
   cases e
   rw[List.take_left' rfl]at ej
   exact(km _).mpr (.inr ⟨j,by simpa using ej,rfl⟩)
 ·rintro (z | z | z)
  ·exact ap.2.2.2.1 z
  ·exact ncl z
  ·obtain⟨ts,e,_⟩:=B.pk.ls
   exact klt (s _ _ e) (by intro k z;cases z) z
 ·rcases z with z | z | z
  ·exact .inl z
  ·exact .inr (.inr (.inl (z ▸ hmem)))
  ·exact .inr (.inr (.inr (.inl z)))
theorem zR(h:LS K a vs H Q E):vs.length=4:=by
 obtain⟨_,_,_,_,_,_,_,_,_,_,_,_,rfl,_⟩:=h
 rfl
theorem BookIn.at{C D:Addr}{A:BA}{w:Nat}{cs:List Ch}{outs:Int->Bool}{H:Hp}(B:BookIn C D H A w cs outs){k:Nat}{c:Ch}(e:cs[k]? =some c):∃ xs x,H A.m=some (.lst xs)/\xs[k]? =some (.ref x)/\ChAt D H x c:=by
 obtain⟨chs,h,p⟩:=B.made
 obtain⟨x,ex,hx⟩:=LG p e
 exact⟨_,x,h,by rw[List.getElem?_map,ex];rfl,hx⟩
theorem TD{n:Nat}{outs:Int->Bool}{k:Nat}(h:k∈BI n outs):k<n/\outs k=false:=by
 have:=List.mem_filter.mp h
 exact⟨List.mem_range.mp this.1,by simpa using this.2⟩
theorem zS(n:Nat)(outs:Int->Bool):(BI n outs).Pairwise (· <·):=List.pairwise_lt_range.filter _
theorem zT(n:Nat)(outs:Int->Bool):(BI n outs).length<=n:=by
 have:=List.length_filter_le (λ(k:Nat)=> !outs k) (List.range n)
 rwa [List.length_range]at this
theorem TF(l:List Nat):CC l=(l.map λ(k:Nat)=>(k:Int)).map V.int:=by simp[CC]
theorem TJ{n:Nat}{outs:Int->Bool}{k:Nat}(h:k<n)(ho:outs k=false):k∈BI n outs:=List.mem_filter.mpr ⟨List.mem_range.mpr h,by rw[ho];rfl⟩
theorem zU{m0 w:Nat}{H1:Hp}{Q:Addr->Hp->Prop}{E:XK}(TP:CW K a)(h1:m0<=1000)(h2:1<=w)(h3:w<=1000)
  (q:∀ p cl H2,H1 p=none->H1 cl=none->PlankAt a H2 p cl w (List.replicate m0 (List.replicate w .non)) 0->Same H1 H2->Q p H2) :
  ∀ x dx,H1 x=none->H1 dx=none->dx≠x->IY K a [.ref x,.int m0,.int w] (upd (upd H1 dx (.own x)) x (.ins (a "Plank") dx [])) (λv H2=>v=.non/\Q x H2) E:=λp dp hp hdp ndp=>by
 refine⟨p,dp,m0,w,rfl,TP,AK,h1,h2,h3,λcl H2 hcl P2 sb2=>⟨rfl,q p cl H2 hp ?_ P2 λy o e=> ?_⟩⟩
 ·have:=(AX (o:=.own p) hdp).trans (AX (o:=.ins (a "Plank") dp []) (by rw[AI ndp.symm];exact hp))
  exact this.free hcl
 ·exact sb2 _ _ (by rw[AI (AS e hp),AI (AS e hdp)];exact e) (AS e hp)
theorem eA{w n:Nat}{rows:List (List V)}{gp cl:Addr}{H1:Hp}{Q:Addr->Hp->Prop}{E:XK}(T:TB K a)(TP:CW K a)(P:PlankAt a H1 gp cl w rows n)
  (q:∀ (A:BA) (H2:Hp),A.gp=gp->A.cl=cl->(∀ x o,H1 x=some o->x=cl\/¬ A.F x)->AY a H2 A w rows n [] (λ_=>false)->Same H1 H2->Q A.b H2) :
  ∀ x dx,H1 x=none->H1 dx=none->dx≠x->HP K a [.ref x,.ref gp] (upd (upd H1 dx (.own x)) x (.ins (DF a) dx [])) (λv H2=>v=.non/\Q x H2) E:=λb db hb hdb ndb=>by
 have s0:Same H1 (upd (upd H1 db (.own b)) b (.ins (DF a) db [])):=(AX hdb).trans (AX (by rw[AI ndb.symm];exact hb))
 refine⟨b,gp,cl,db,w,rows,n,rfl,T,TP,P.same s0,AK,λm mi lt ou ls H4 hm hmi hlt hou hls B4 sb4=>⟨rfl,?_⟩⟩
 refine q ⟨b,gp,m,mi,lt,ou,ls,cl⟩ H4 rfl rfl (λx o e=> ?_) B4 λy o e=>sb4 _ _ (s0 _ _ e) (AS e hb)
 by_cases z:x=cl
 ·exact .inl z
 ·refine .inr ?_
  have e':=s0 _ _ e
  rintro (y | y | y | y | y | y)
  ·rw[y]at e';rw[show(BA.mk b gp m mi lt ou ls cl).m=m from rfl,hm]at e';cases e'
  ·rw[y]at e';rw[show(BA.mk b gp m mi lt ou ls cl).mi=mi from rfl,hmi]at e';cases e'
  ·rw[hls x y]at e';cases e'
  ·rw[y]at e';rw[show(BA.mk b gp m mi lt ou ls cl).lt=lt from rfl,hlt]at e';cases e'
  ·rw[y]at e';rw[show(BA.mk b gp m mi lt ou ls cl).ou=ou from rfl,hou]at e';cases e'
  ·exact z y
theorem zV(h:LT K a vs H Q E):Q2 K a (λ_=>E) (A7 Q) (A5 ["self","number","gone","need"] vs) H:=by
 obtain⟨A,w,rows,n,cs,outs,k,c,g,kvg,rfl,T,B,ec,hg,q⟩:=h
 obtain⟨dx,hb⟩:=B.bk.ob
 obtain⟨xs,cx,hm,ex,hch⟩:=B.bk.at ec
 obtain⟨dc,pl,nt,hc1,hc2,hc3⟩:=hch
 obtain⟨kvo,ho,hv,_⟩:=B.bk.out
 push_cast[Q2,↓QY,↓QZ,↓Q0,↓Q1]
 refine⟨_,_,_,hb,T.cl,T.nM,_,F4,BD (SqL.of hm) rfl ex ⟨cx,rfl,_,_,_,hc1,T.cc,T.nN,_,tL,nt,rfl,.inr ⟨⟨_,SqT.of hc3⟩,?_⟩⟩⟩
 refine pW (xs:=c.nd.map V.int) (λi σ H'=>H'=H/\(∀ x∈c.nd.take i,(outs x || B0 kvg x)=true)/\∃ z,σ=[some (.ref A.b),some (.int k),some (.ref g),z]) ⟨rfl,by simp,_,rfl⟩ (λi σ H' _ ⟨e,_⟩=>e ▸ SqT.of hc3) (λi x σ H' hx ⟨e,al,z,ez⟩=> ?_) (λσ H' ⟨e,al,z,ez⟩=> ?_)
 ·subst e;subst ez
  rw[List.getElem?_map,Option.map_eq_some_iff]at hx
  obtain⟨y,hy,rfl⟩:=hx
  push_cast[↓QY,↓QZ,↓Q0,↓Q1]
  have step:(outs y || B0 kvg y)=true->∀ x∈c.nd.take (i+1),(outs x || B0 kvg x)=true:=λh x hx=>by
   rw[List.take_add_one,hy]at hx
   rcases List.mem_append.mp hx with hx | hx
   ·exact al x hx
   ·have:x=y:=by simpa using hx
    exact this ▸ h
  refine⟨_,_,_,hb,T.cl,T.nO,_,LK,A.ou,rfl,_,dI ho,?_⟩
  rw[hv]
  cases h1:outs y with
  | true =>
   push_cast[]
   exact step (by rw[h1];rfl)
  | false =>
   push_cast[]
   refine⟨_,dI hg,?_⟩
   cases h2:(AZ kvg (.inl y)).isSome with
   | true =>
    push_cast[]
    exact step (by show(outs y || (AZ kvg (.inl y)).isSome)=true;rw[h2];simp)
   | false =>
    push_cast[]
    have e:HL c.nd (λx=>outs x || B0 kvg x)=some y:=by
     obtain⟨hi,e⟩:=List.getElem?_eq_some_iff.mp hy
     unfold HL
     rw[List.find?_eq_some_iff_append]
     refine⟨by show(!(outs y || (AZ kvg (.inl y)).isSome))=true;rw[h1,h2];rfl,c.nd.take i,c.nd.drop (i+1),?_,λx hx=>by show(!!(outs x || B0 kvg x))=true;rw[al x hx];rfl⟩
     rw[<-e,<-List.drop_eq_getElem_cons hi,List.take_append_drop]
    rw[e]at q
    exact q
 ·subst e;subst ez
  rw[List.length_map,List.take_length]at al
  push_cast[↓QY,↓QZ,↓Q0,↓Q1]
  have e:HL c.nd (λx=>outs x || B0 kvg x)=none:=List.find?_eq_none.mpr λx hx=>by show ¬ (!(outs x || B0 kvg x))=true;rw[al x hx];exact Bool.false_ne_true
  rw[e]at q
  exact q
theorem zW(h:LT K a vs H Q E):vs.length=3:=by
 obtain⟨_,_,_,_,_,_,_,_,_,_,rfl,_⟩:=h
 rfl
def zX(s:Pass)(m:Nat)(H1 H':Hp)(g ol hl:Addr):Prop:=∃ (kvg:List (AN × V)) (hs:List Addr),SameBut (λy=>y=g\/y=ol\/y=hl) H1 H'/\H' g=some (.dK kvg)/\(∀ x:Int,B0 kvg x=s.gone x)/\kvg.length<=m/\H' ol=some (.lst (s.out.map λ(k:Nat)=>V.int k)) ∧
 H' hl=some (.lst (hs.map V.ref))/\Paired (λx (p:Nat × Int)=>H' x=some (.tup [.int p.1,.int p.2])) hs s.held
theorem TK(kvs:List (AN × V))(k x:Int)(v:V):B0 (BT kvs (.inl k) v) x=(B0 kvs x || x == k):=by
 unfold B0
 rw[M3]
 by_cases e:x=k
 ·subst e;simp
 ·have:¬ (Sum.inl x:AN)=Sum.inl k:=λz=>e (by simpa using z)
  rw[if_neg this];simp[e]
theorem zY (h:HR K a vs H Q E):RV K a (λ_=>E) (A7 Q) (A5 ["self","block","taken","gone","out","held","number","lack"] vs) H:=by
  obtain⟨A,w,rows,n,cs,outs,b,tk,kvt,rfl,T,B,hbl,htk,hkt,q⟩:=h
  obtain⟨dx,hb⟩:=B.bk.ob
  push_cast[RV,↓RJ,↓RK,↓RM,↓RN,↓RO,↓RP,↓RQ,↓RR,↓RS,↓RT,↓RU]
  refine⟨_,htk,λg hg=>⟨by decide,λol hol=>⟨by decide,λhl hhl=> ?_⟩⟩⟩
  have s1:Same H (upd (upd (upd H g (.dK kvt)) ol (.lst [])) hl (.lst [])):=((AX hg).trans (AX hol)).trans (AX hhl)
  have ngo:g≠ol:=AS AK hol
  have nol:ol≠hl:=AS AK hhl
  have ngl:g≠hl:=AS (by rw[AI ngo];exact AK) hhl
  have eg:upd (upd (upd H g (.dK kvt)) ol (.lst [])) hl (.lst []) g=some (.dK kvt):=by rw[AI ngl,AI ngo,AK]
  have eo:upd (upd (upd H g (.dK kvt)) ol (.lst [])) hl (.lst []) ol=some (.lst []):=by rw[AI nol,AK]
  have el:upd (upd (upd H g (.dK kvt)) ol (.lst [])) hl (.lst []) hl=some (.lst []):=AK
  have holH:H ol=none:=(AX hg).free hol
  have hhlH:H hl=none:=((AX hg).trans (AX hol)).free hhl
  revert s1 eg eo el
  generalize upd (upd (upd H g (.dK kvt)) ol (.lst [])) hl (.lst [])=H1
  intro s1 eg eo el
  have hil:b<A.ls.length:=by rw[B.nb];exact hbl
  have ell:=List.getElem?_eq_getElem hil
  have hll:=B.bk.mic b _ ell
  revert ell hll
  generalize A.ls[b]=l
  intro ell hll
  refine⟨_,_,_,s1 _ _ hb,T.cl,T.nI,_,QI,BD (SqL.of (s1 _ _ B.bk.mil)) (n:=b) (v:=.ref l) rfl (by rw[List.getElem?_map,ell];rfl) ⟨l,rfl,.inl ⟨⟨_,SqL.of (s1 _ _ hll)⟩,?_⟩⟩⟩
  have bln:=XU cs b
  have sz:=B.bk.sz
  have G:∀ {H':Hp},SameBut (λy=>y=g\/y=ol\/y=hl) H1 H'->Same H H':=λsb y o e=>sb _ _ (s1 _ _ e) (by
    rintro (z | z | z)
    ·rw[z,hg]at e;cases e
    ·rw[z,holH]at e;cases e
    ·rw[z,hhlH]at e;cases e)
  refine GU (xs:=(BM cs b).map λ(k:Nat)=>V.int k) (λi σ H'=>zX (((BM cs b).take i).foldl (CB cs outs) ⟨[],[],B0 kvt⟩) (1000+i) H1 H' g ol hl/\∃ z1 z2,σ=[some (.ref A.b),some (.int b),some (.ref tk),some (.ref g),some (.ref ol),some (.ref hl),z1,z2])
    ⟨⟨kvt,[],SameBut.refl _,eg,λ_=>rfl,by omega,eo,el,.nil⟩,_,_,rfl⟩ (λi σ H' _ ⟨⟨kvg,hs,sb,_⟩,_⟩=>SqL.of (G sb _ _ hll)) (λi x σ H' hx ⟨iv,z1,z2,ez⟩=> ?_) (λσ H' ⟨iv,z1,z2,ez⟩=> ?_)
  · subst ez
    have hi:=(List.getElem?_eq_some_iff.mp hx).1
    rw[List.length_map]at hi
    rw[List.getElem?_map,Option.map_eq_some_iff]at hx
    obtain⟨k,hk,rfl⟩:=hx
    have hkc:=IZ (List.mem_of_getElem? hk)
    have ec:=List.getElem?_eq_getElem hkc
    revert ec
    generalize cs[k]=c
    intro ec
    have hszs:=X3 (cs:=cs) (outs:=outs) ((BM cs b).take i) ⟨[],[],B0 kvt⟩
    have es:=X4 (CB cs outs) (⟨[],[],B0 kvt⟩:Pass) hk
    revert iv hszs es
    generalize ((BM cs b).take i).foldl (CB cs outs) ⟨[],[],B0 kvt⟩=s
    generalize ((BM cs b).take (i+1)).foldl (CB cs outs) ⟨[],[],B0 kvt⟩=s'
    intro iv hszs es
    obtain⟨kvg,hs,sb,e1,e2,e3,e4,e5,e6⟩:=iv
    simp only[List.length_nil,List.length_take]at hszs
    have sH:=G sb
    have B':=B.same sH
    obtain⟨kvo,ho,hv,_⟩:=B.bk.out
    push_cast[↓RJ,↓RK,↓RM,↓RN,↓RO,↓RP,↓RQ,↓RR,↓RS,↓RT,↓RU]
    refine⟨_,_,_,sH _ _ hb,T.cl,T.nO,_,LK,A.ou,rfl,_,dI (sH _ _ ho),?_⟩
    rw[hv]
    unfold CB at es
    cases h1:outs k with
    | true =>
      rw[h1,Bool.true_or,if_pos rfl]at es
      push_cast[]
      rw[es]
      exact⟨kvg,hs,sb,e1,e2,by omega,e4,e5,e6⟩
    | false =>
      rw[h1,Bool.false_or]at es
      push_cast[]
      refine⟨_,dI e1,?_⟩
      have e2k:(AZ kvg (.inl (k:Int))).isSome=s.gone k:=e2 k
      rw[e2k]
      cases h2:s.gone k with
      | true =>
        rw[h2,if_pos rfl]at es
        push_cast[]
        rw[es]
        exact⟨kvg,hs,sb,e1,e2,by omega,e4,e5,e6⟩
      | false =>
        rw[h2,if_neg Bool.false_ne_true,ec]at es
        push_cast[]
        refine⟨_,_,sH _ _ hb,CO (by decide +kernel),A,w,rows,n,cs,outs,k,c,g,kvg,rfl,T,B',ec,e1,?_⟩
        have efn:(λx=>outs x || B0 kvg x)=λx=>outs x || s.gone x:=by funext x;rw[e2]
        rw[efn]
        simp only[Option.bind_some]at es
        cases h3:HL c.nd (λx=>outs x || s.gone x)with
        | none =>
          rw[h3]at es
          dsimp only at es
          dsimp only [QQ]
          rw[if_pos rfl]
          refine⟨_,pI e1 (by omega),.inl ⟨rfl,_,SqL.of (by rw[AI ngo.symm];exact e4)⟩,ol,_,_,rfl,rfl,by rw[AI ngo.symm];exact e4,Nat.lt_of_lt_of_le (show(s.out.map λ(k:Nat)=>V.int k).length<1000 by rw[List.length_map];omega) (by decide),?_⟩
          rw[es]
          refine⟨_,hs,?_,by rw[AI ngo,AK],λx=>by rw[TK,e2],?_,by rw[AK,List.map_append];rfl,by rw[AI nol.symm,AI ngl.symm];exact e5,Paired.mapP e6 λx p e=> ?_⟩
          · intro y o e ny
            rw[AI λz=>ny (.inr (.inl z)),AI λz=>ny (.inl z)]
            exact sb _ _ e ny
          · have:=IM kvg (.inl (k:Int)) (.bl true)
            omega
          ·rw[AI (A3 e e4 (by intro z;cases z)),AI (A3 e e1 (by intro z;cases z))];exact e
        | some l' =>
          rw[h3]at es
          dsimp only at es
          dsimp only [QQ]
          rw[if_neg (by intro z;cases z)]
          refine⟨.inl ⟨rfl,_,SqL.of e5⟩,by decide,λtp htp=> ?_⟩
          have ntl:hl≠tp:=AS e5 htp
          refine⟨hl,_,_,rfl,rfl,by rw[AI ntl];exact e5,Nat.lt_of_lt_of_le (show(hs.map V.ref).length<1000 by rw[List.length_map,e6.length];omega) (by decide),?_⟩
          rw[es]
          have s2:=AX (o:=.tup [.int (k:Int),.int l']) htp
          have kp:∀ y,y≠hl->y≠tp->upd (upd H' tp (.tup [.int (k:Int),.int l'])) hl (.lst (hs.map V.ref++[.ref tp])) y=H' y:=λy n1 n2=>by rw[AI n1,AI n2]
          refine⟨kvg,hs++[tp],?_,by rw[kp g ngl (AS e1 htp)];exact e1,e2,by omega,by rw[kp ol nol (AS e4 htp)];exact e4,by rw[AK,List.map_append];rfl,Paired.snoc (Paired.mapP e6 λx p e=> ?_) ?_⟩
          · intro y o e ny
            have e':=sb _ _ e ny
            rw[kp y (λz=>ny (.inr (.inr z))) (AS e' htp)];exact e'
          ·rw[kp x (A3 e e5 (by intro z;cases z)) (AS e htp)];exact e
          ·rw[AI ntl.symm,AK]
  · subst ez
    rw[List.length_map,List.take_length]at iv
    push_cast[↓RJ,↓RK,↓RM,↓RN,↓RO,↓RP,↓RQ,↓RR,↓RS,↓RT,↓RU]
    obtain⟨kvg,hs,sb,e1,e2,e3,e4,e5,e6⟩:=iv
    refine⟨by decide,λt ht=> ?_⟩
    have s2:=AX (o:=.tup [.ref ol,.ref hl]) ht
    exact q t ol hl _ holH hhlH nol ((G sb).trans s2) ⟨AK,s2 _ _ e4,hs,s2 _ _ e5,Paired.mapP e6 λx p e=>s2 _ _ e⟩
theorem zZ(h:HR K a vs H Q E):vs.length=3:=by
 obtain⟨_,_,_,_,_,_,_,_,_,rfl,_⟩:=h
 rfl
theorem z0(h:LU K a vs H Q E):Q8 K a (λ_=>E) (A7 Q) (A5 ["self","values","block","laid","number"] vs) H:=by
 obtain⟨A,w,rows,n,cs,outs,b,vl,row,rfl,T,B,hbl,hvl,hrl,q⟩:=h
 obtain⟨dx,hb⟩:=B.bk.ob
 obtain⟨kvo,ho,hv,_⟩:=B.bk.out
 push_cast[Q8,↓Q3,↓Q4,↓Q5,↓Q6,↓Q7]
 refine⟨_,.inl (SqL.of hvl),λla hla=> ?_⟩
 have s1:=AX (o:=.lst row) hla
 have hil:b<A.ls.length:=by rw[B.nb];exact hbl
 have ell:=List.getElem?_eq_getElem hil
 have hll:=B.bk.mic b _ ell
 revert ell hll
 generalize A.ls[b]=l
 intro ell hll
 refine⟨_,_,_,s1 _ _ hb,T.cl,T.nI,_,QI,BD (SqL.of (s1 _ _ B.bk.mil)) (n:=b) (v:=.ref l) rfl (by rw[List.getElem?_map,ell];rfl) ⟨l,rfl,.inl ⟨⟨_,SqL.of (s1 _ _ hll)⟩,?_⟩⟩⟩
 have sk:∀ o,Same H (upd H la o):=λo=>AX hla
 refine GU (xs:=(BM cs b).map λ(k:Nat)=>V.int k) (λi σ H'=>H'=upd H la (.lst (((BM cs b).take i).foldl (DN cs outs) row))/\∃ z1,σ=[some (.ref A.b),some (.ref vl),some (.int b),some (.ref la),z1])
  ⟨rfl,_,rfl⟩ (λi σ H' _ ⟨e,_⟩=>by rw[e];exact SqL.of (sk _ _ _ hll)) (λi x σ H' hx ⟨e,z1,ez⟩=> ?_) (λσ H' ⟨e,z1,ez⟩=> ?_)
 ·subst e;subst ez
  rw[List.getElem?_map,Option.map_eq_some_iff]at hx
  obtain⟨k,hk,rfl⟩:=hx
  have hkc:=IZ (List.mem_of_getElem? hk)
  have ec:=List.getElem?_eq_getElem hkc
  revert ec
  generalize cs[k]=c
  intro ec
  have es:=X4 (DN cs outs) row hk
  have hlen:=QJ (cs:=cs) (outs:=outs) ((BM cs b).take i) row
  revert es hlen
  generalize ((BM cs b).take i).foldl (DN cs outs) row=r
  generalize ((BM cs b).take (i+1)).foldl (DN cs outs) row=r'
  intro es hlen
  have sH:=sk (.lst r)
  push_cast[↓Q3,↓Q4,↓Q5,↓Q6,↓Q7]
  refine⟨_,_,_,sH _ _ hb,T.cl,T.nO,_,LK,A.ou,rfl,_,dI (sH _ _ ho),?_⟩
  rw[hv]
  unfold DN at es
  cases h1:outs k with
  | false =>
   rw[h1,if_neg Bool.false_ne_true]at es
   push_cast[]
   rw[es]
  | true =>
   rw[h1,if_pos rfl,ec]at es
   dsimp only at es
   push_cast[]
   obtain⟨xs,cx,hm,ex,dc,pl,nt,hc1,hc2,hc3⟩:=(B.same sH).bk.at ec
   have hcell:=(B.bk.inn c (List.mem_of_getElem? ec)).2
   refine⟨_,_,_,sH _ _ hb,T.cl,T.nM,_,F4,BD (SqL.of hm) rfl ex ⟨cx,rfl,_,_,_,hc1,T.cc,T.nV,_,XW,?_⟩⟩
   refine⟨_,_,_,sH _ _ hb,T.cl,T.nM,_,F4,BD (SqL.of hm) rfl ex ⟨cx,rfl,_,_,_,hc1,T.cc,T.nP,_,XV,BH hc2 (n:=1) rfl rfl ?_⟩⟩
   refine⟨la,r,(c.cell:Int),c.cell,rfl,rfl,AK,?_,?_⟩
   ·unfold ES
    rw[if_pos (by omega),if_pos (by omega),Int.toNat_natCast]
   ·rw[G3,es]
 ·subst e;subst ez
  rw[List.length_map,List.take_length]
  push_cast[↓Q3,↓Q4,↓Q5,↓Q6,↓Q7]
  exact q la _ hla (sk _) AK
theorem z9(h:LU K a vs H Q E):vs.length=3:=by
 obtain⟨_,_,_,_,_,_,_,_,_,rfl,_⟩:=h
 rfl
theorem Ab(h:HS K a vs H Q E):SD K a (λ_=>E) (A7 Q) (A5 ["self","block","values","told","number"] vs) H:=by
 obtain⟨A,w,rows,n,cs,outs,b,rfl,T,TP,B,q,qe⟩:=h
 obtain⟨dx,hb⟩:=B.bk.ob
 obtain⟨dp,hg⟩:=B.pk.ob
 push_cast[SD,↓N3,↓N4,↓N5,↓N6,↓N7,↓N8]
 refine⟨_,_,_,hb,T.cl,T.nG,_,JA,A.gp,rfl,_,_,hg,TC _ _ _,A.gp,A.cl,w,rows,n,b,rfl,TP,B.pk,λb' row eb er vl hvl=> ?_,qe⟩
 subst eb
 push_cast[]
 have hbl:=(List.getElem?_eq_some_iff.mp er).1
 have s1:=AX (o:=.lst row) hvl
 have ev:upd H vl (.lst row) vl=some (.lst row):=AK
 revert s1 ev
 generalize upd H vl (.lst row)=H1
 intro s1 ev
 refine⟨_,_,s1 _ _ hb,CO (by decide +kernel),λe0 he0=> ?_⟩
 have s2:=s1.trans (AX (o:=.dK []) he0)
 refine⟨A,w,rows,n,cs,outs,b',e0,[],rfl,T,B.same s2,hbl,AK,by simp,λt ol hl H3 hol hhl nol s3 told=> ?_⟩
 have s03:=s2.trans s3
 have ev3:=s3 _ _ (AX he0 _ _ ev)
 have holH:=s2.free hol
 have hhlH:=s2.free hhl
 have hasnil:(B0 ([]:List (AN × V)))=λ_=>false:=rfl
 rw[hasnil]at told
 obtain⟨ht,ho3,hs,hh3,hpr⟩:=told
 obtain⟨rise,fresh,_⟩:=LL (cs:=cs) (outs:=outs) (b:=b')
 have eW:BU cs outs b'=λx=>outs x || (outcome cs outs (λ_=>false) b').out.any λ(k:Nat)=>x ==(k:Int):=rfl
 replace q:=λH' a1 a2 a3=>q b' row t ol hl H' rfl er holH hhlH nol a1 a2 a3
 revert ho3 hpr rise fresh eW q
 generalize outcome cs outs (λ_=>false) b'=oc
 generalize BU cs outs b'=ow
 intro ho3 hpr rise fresh eW q
 push_cast[]
 refine BH ht (n:=0) rfl rfl ⟨ol,rfl,.inl ⟨⟨_,SqL.of ho3⟩,?_⟩⟩
 obtain⟨kvo,hou,hvo,hko⟩:=B.bk.out
 have hou3:=s03 _ _ hou
 have fO:¬ A.F ol:=B.off holH
 have fL:¬ A.F hl:=B.off hhlH
 have nou:ol≠A.ou:=λz=>fO (.inr (.inr (.inr (.inr (.inl z)))))
 refine GU (xs:=oc.out.map λ(k:Nat)=>V.int k) (λi σ H'=>(∃ kv,H'=upd H3 A.ou (.dK kv)/\(∀ x:Int,(AZ kv (.inl x)).isSome=(outs x || (oc.out.take i).any λ(k:Nat)=>x ==(k:Int)))/\KeysOk kv cs.length)/\∃ z1,σ=[some (.ref A.b),some (.int b'),some (.ref vl),some (.ref t),z1])
  ⟨⟨kvo,?_,λx=>by rw[hvo];simp,hko⟩,_,rfl⟩ (λi σ H' _ ⟨⟨kv,e,_⟩,_⟩=>by rw[e];exact SqL.of (by rw[AI nou];exact ho3)) (λi x σ H' hx ⟨⟨kv,e,hv,hk⟩,z1,ez⟩=> ?_) (λσ H' ⟨⟨kv,e,hv,hk⟩,z1,ez⟩=> ?_)
 ·funext y
  by_cases e:y=A.ou
  ·subst e;rw[AK];exact hou3
  ·rw[AI e]
 ·subst e;subst ez
  rw[List.getElem?_map,Option.map_eq_some_iff]at hx
  obtain⟨k,ek,rfl⟩:=hx
  have hkm:=List.mem_of_getElem? ek
  have hkc:=IZ (fresh k hkm).2
  have hnone:AZ kv (.inl (k:Int))=none:=by
   have:=hv k
   rw[(fresh k hkm).1,Bool.false_or]at this
   have z:(oc.out.take i).any (λ(j:Nat)=>(k:Int) ==(j:Int))=false:=by
    rw[List.any_eq_false]
    intro j hj
    obtain⟨m,hm,e⟩:=List.getElem_of_mem hj
    rw[List.length_take]at hm
    rw[List.getElem_take]at e
    obtain⟨hi,e2⟩:=List.getElem?_eq_some_iff.mp ek
    have:=List.pairwise_iff_getElem.mp rise m i (by omega) hi (by omega)
    rw[e,e2]at this
    simp;omega
   rw[z]at this
   exact Option.isSome_eq_false_iff.mp this |> Option.isNone_iff_eq_none.mp
  push_cast[↓N3,↓N4,↓N5,↓N6,↓N7,↓N8]
  have hb3:upd H3 A.ou (.dK kv) A.b=some (.ins (DF a) dx (bf A.gp A.m A.mi A.lt A.ou)):=by
   rw[AI (A3 (s03 _ _ hb) hou3 (by intro z;cases z))];exact s03 _ _ hb
  refine⟨_,_,_,hb3,T.cl,T.nO,_,LK,A.ou,rfl,_,pI AK (by have:=hk.len;have:=B.bk.sz;omega),_,G3,λx=> ?_,hk.put hkc hnone _⟩
  have:=TK kv k x (.bl true)
  unfold B0 at this
  rw[this,hv,List.take_add_one,ek,List.any_append,Bool.or_assoc]
  simp
 ·subst e;subst ez
  rw[List.length_map,List.take_length]at hv
  replace hv:∀ x:Int,(AZ kv (.inl x)).isSome=ow x:=λx=>by rw[hv,eW]
  push_cast[↓N3,↓N4,↓N5,↓N6,↓N7,↓N8]
  have lou:CP (H A.ou):=JB hou
  have kb:∀ {y:Addr} {o:HO},H y=some o->y≠A.ou->upd H3 A.ou (.dK kv) y=some o:=λe n=>by rw[AI n];exact s03 _ _ e
  have sb4:SameBut (· =A.ou) H (upd H3 A.ou (.dK kv)):=λy o e n=>kb e n
  have B4:AY a (upd H3 A.ou (.dK kv)) A w rows n cs ow:=by
   obtain⟨⟨b1,b2,b3,b4,b5,b6,_,b8,b9,b10,b11,b12⟩,pk,nb⟩:=B
   have g:∀ x,x=A.ou->CP (H x):=λx e=>e ▸ lou
   obtain⟨dx',b1⟩:=b1
   obtain⟨chs,b2,b2'⟩:=b2
   obtain⟨kvs,b6,b6'⟩:=b6
   obtain⟨ts,pl1,pl2⟩:=pk.ls
   refine⟨⟨⟨dx',kb b1 (A3 b1 hou (by intro z;cases z))⟩,⟨chs,kb b2 (A3 b2 hou (by intro z;cases z)),Paired.mapP b2' λx c h=>h.sb sb4 g⟩,kb b3 (A3 b3 hou (by intro z;cases z)),λi l e=>kb (b4 i l e) (A3 (b4 i l e) hou (by intro z;cases z)),b5,⟨kvs,kb b6 (A3 b6 hou (by intro z;cases z)),b6'⟩,⟨kv,AK,hv,hk⟩,b8,b9,b10,b11,b12⟩,pk.sbL sb4 g (A3 pl1 hou (by intro z;cases z)),nb⟩
  have ev4:upd H3 A.ou (.dK kv) vl=some (.lst row):=by rw[AI (A3 ev3 hou3 (by intro z;cases z))];exact ev3
  have ht4:upd H3 A.ou (.dK kv) t=some (.tup [.ref ol,.ref hl]):=by rw[AI (A3 ht hou3 (by intro z;cases z))];exact ht
  have ho4:upd H3 A.ou (.dK kv) ol=some (.lst (oc.out.map λ(k:Nat)=>V.int k)):=by rw[AI nou];exact ho3
  have hh4:upd H3 A.ou (.dK kv) hl=some (.lst (hs.map V.ref)):=by rw[AI (A3 hh3 hou3 (by intro z;cases z))];exact hh3
  have hp4:Paired (λx (p:Nat × Int)=>upd H3 A.ou (.dK kv) x=some (.tup [.int p.1,.int p.2])) hs oc.held:=Paired.mapP hpr λx p e=>by rw[AI (A3 e hou3 (by intro z;cases z))];exact e
  revert sb4 B4 ev4 ht4 ho4 hh4 hp4
  generalize upd H3 A.ou (.dK kv)=H4
  intro sb4 B4 ev4 ht4 ho4 hh4 hp4
  obtain⟨dx4,hb4⟩:=B4.bk.ob
  obtain⟨dp4,hg4⟩:=B4.pk.ob
  refine⟨_,_,_,hb4,T.cl,T.nG,_,JA,A.gp,rfl,_,_,hg4,d9 _ _ _,_,_,hb4,CO (by decide +kernel),A,w,rows,n,cs,ow,b',vl,row,rfl,T,B4,hbl,ev4,B.pk.wd row (List.mem_of_getElem? er),λll H5 hll5 s5 ell5=> ?_⟩
  have B5:=B4.same s5
  refine⟨A.gp,A.cl,w,rows,n,b',ll,DO cs ow b' row,rfl,TP,B5.pk,SqL.of ell5,by rw[X2,B.pk.wd row (List.mem_of_getElem? er)];have:=B.pk.sw;omega,λi ei hi hxw H6 P6 sb6=> ?_,λz=> ?_⟩
  ·have ei:b'=i:=by omega
   subst ei
   push_cast[↓N3,↓N4,↓N5,↓N6,↓N7,↓N8]
   obtain⟨ts5,pl5,pt5⟩:=B5.pk.ls
   obtain⟨dp5,hg5⟩:=B5.pk.ob
   have ap:=B5.bk.ap
   have nF:∀ {y:Addr} {o:HO},H5 y=some o->(∀ C d f,o≠.ins C d f)->(∀ xs,o≠.lst xs)->¬ (y=A.gp\/y=A.cl):=λe n1 n2=>by
    rintro (z | z)
    ·exact A3 e hg5 (n1 _ _ _) z
    ·exact A3 e pl5 (n2 _) z
   have gp_b:A.b≠A.gp:=by
    obtain⟨d5,hb5⟩:=B5.bk.ob
    exact A3 hb5 hg5 (NU (by simp[bf,pf]))
   have k6:∀ {y:Addr} {o:HO},H5 y=some o->y≠A.gp->y≠A.cl->H6 y=some o:=λe n1 n2=>sb6 _ _ e (by rintro (z | z);exact n1 z;exact n2 z)
   have notins:∀ {y:Addr} {o:HO},H5 y=some o->(∀ C d f,o≠.ins C d f)->y≠A.gp:=λe n=>A3 e hg5 (n _ _ _)
   have B6:AY a H6 A w (rows.set b' (DO cs ow b' row)) (n+1) cs ow:=by
    obtain⟨⟨b1,b2,b3,b4,b5,b6,b7,b8,b9,b10,b11,b12⟩,pk,nb⟩:=B5
    obtain⟨dx',b1⟩:=b1
    obtain⟨chs,b2,b2'⟩:=b2
    obtain⟨kvs,b6,b6'⟩:=b6
    obtain⟨kvo',b7,b7'⟩:=b7
    refine⟨⟨⟨dx',k6 b1 gp_b (A3 b1 pl5 (by intro z;cases z))⟩,⟨chs,k6 b2 (notins b2 (by intro _ _ _ z;cases z)) ap.2.2.2.1.symm,Paired.mapP b2' λx c h=> ?_⟩,k6 b3 (notins b3 (by intro _ _ _ z;cases z)) ap.2.2.2.2.1.symm,λi l e=>k6 (b4 i l e) (notins (b4 i l e) (by intro _ _ _ z;cases z)) (λz=>ap.2.2.2.2.2 (z ▸ List.mem_of_getElem? e)),b5,⟨kvs,k6 b6 (notins b6 (by intro _ _ _ z;cases z)) (A3 b6 pl5 (by intro z;cases z)),b6'⟩,⟨kvo',k6 b7 (notins b7 (by intro _ _ _ z;cases z)) (A3 b7 pl5 (by intro z;cases z)),b7'⟩,b8,b9,b10,b11,b12⟩,P6,by rw[nb,List.length_set]⟩
    obtain⟨dc,p1,n1,h1,h2,h3⟩:=h
    exact⟨dc,p1,n1,k6 h1 (A3 h1 hg5 (NU (by simp[DW,pf]))) (A3 h1 pl5 (by intro z;cases z)),k6 h2 (notins h2 (by intro _ _ _ z;cases z)) (A3 h2 pl5 (by intro z;cases z)),k6 h3 (notins h3 (by intro _ _ _ z;cases z)) (A3 h3 pl5 (by intro z;cases z))⟩
   have ncO:ol≠A.cl:=λz=>fO (.inr (.inr (.inr (.inr (.inr z)))))
   have ncL:hl≠A.cl:=λz=>fL (.inr (.inr (.inr (.inr (.inr z)))))
   have ht5:=s5 _ _ ht4
   have ho5:=s5 _ _ ho4
   have hh5:=s5 _ _ hh4
   refine q H6 ⟨k6 ht5 (notins ht5 (by intro _ _ _ z;cases z)) (A3 ht5 pl5 (by intro z;cases z)),k6 ho5 (notins ho5 (by intro _ _ _ z;cases z)) ncO,hs,k6 hh5 (notins hh5 (by intro _ _ _ z;cases z)) ncL,Paired.mapP hp4 λx p e=> ?_⟩ B6 λy o e ny=> ?_
   ·have e5:=s5 _ _ e
    exact k6 e5 (notins e5 (by intro _ _ _ z;cases z)) (A3 e5 pl5 (by intro z;cases z))
   ·exact k6 (s5 _ _ (sb4 _ _ e λz=>ny (.inl (.inr (.inr (.inr (.inr (.inl z)))))))) (λz=>ny (.inr z)) (λz=>ny (.inl (.inr (.inr (.inr (.inr (.inr z)))))))
  ·rcases z with z | z | z
   ·omega
   ·omega
   ·exact absurd (by rw[X2,B.pk.wd row (List.mem_of_getElem? er)]) z
theorem Ac(h:HS K a vs H Q E):vs.length=2:=by
 obtain⟨_,_,_,_,_,_,_,rfl,_⟩:=h
 rfl
theorem Ag(h:F6 K a vs H Q E):SM K a (λ_=>E) (A7 Q) (A5 ["self","place","number"] vs) H:=by
 obtain⟨A,w,rows,n,cs,outs,pl,i,j,rfl,T,TP,B,hp,q,qe⟩:=h
 obtain⟨dx,hb⟩:=B.bk.ob
 obtain⟨dp,hg⟩:=B.pk.ob
 push_cast[SM,↓wE,↓wF,↓wG,↓wH]
 refine⟨_,_,hb,CO (by decide +kernel),A,w,rows,n,cs,outs,pl,i,j,rfl,T,TP,B,hp,λh=> ?_,qe⟩
 have q:=q h
 unfold JF at q
 cases e:CA cs i j with
 | none =>
  rw[e]at q
  push_cast[JE]
  refine⟨_,_,_,hb,T.cl,T.nG,_,JA,A.gp,rfl,_,_,hg,TC _ _ _,BH hp (n:=0) rfl rfl ?_⟩
  refine⟨A.gp,A.cl,w,rows,n,i,rfl,TP,B.pk,λb' row eb er vl hvl=> ?_,λz=>absurd h λy=>by omega⟩
  subst eb
  have s1:=AX (o:=.lst row) hvl
  refine BH (s1 _ _ hp) (n:=1) rfl rfl ?_
  have rl:=B.pk.wd row (List.mem_of_getElem? er)
  have hj:j.toNat<row.length:=by omega
  have ej:=List.getElem?_eq_getElem hj
  refine BD (SqL.of AK) (n:=j.toNat) (v:=row[j.toNat]) (by omega) ej ?_
  refine q _ _ ?_ s1
  rw[show((b':Int)).toNat=b' from by omega,er]
  exact ej
 | some k =>
  rw[e]at q
  push_cast[JE]
  have hk:=QF e
  have ec:=List.getElem?_eq_getElem hk
  obtain⟨chs,hm,pc⟩:=B.bk.made
  obtain⟨x,ex,dx',p1,n1,h1,h2,h3⟩:=LG pc ec
  refine⟨_,_,_,hb,T.cl,T.nM,_,F4,BD (SqL.of hm) (n:=k) (v:=.ref x) rfl (by rw[List.getElem?_map,ex];rfl) ⟨x,rfl,_,_,_,h1,T.cc,T.nV,_,XW,q _ _ ?_ (Same.refl _)⟩⟩
  show(cs[k]?).map (·.val)=_
  rw[ec]
  rfl
theorem Ah(h:F6 K a vs H Q E):vs.length=2:=by
 obtain⟨_,_,_,_,_,_,_,_,_,rfl,_⟩:=h
 rfl
theorem TL(f:Nat->Nat):∀ m:Nat,(∀ i,i<m->f i<=(CT f m).2)/\(1<=m->(CT f m).1<m/\f (CT f m).1=(CT f m).2/\∀ i,i<(CT f m).1->f i<(CT f m).2)
 | 0=>⟨λi h=>by omega,λh=>by omega⟩
 | m+1=>by
  obtain⟨h1,h2⟩:=TL f m
  have e:CT f (m+1)=if(CT f m).2<f m then(m,f m)else CT f m:=rfl
  by_cases h:(CT f m).2<f m
  ·rw[e,if_pos h]
   refine⟨λi hi=> ?_,λ_=>⟨Nat.lt_succ_self m,rfl,λi hi=>Nat.lt_of_le_of_lt (h1 i hi) h⟩⟩
   rcases Nat.lt_or_eq_of_le (Nat.le_of_lt_succ hi)with hi | hi
   ·exact Nat.le_of_lt (Nat.lt_of_le_of_lt (h1 i hi) h)
   ·rw[hi];exact Nat.le_refl _
  ·rw[e,if_neg h]
   refine⟨λi hi=> ?_,λ_=> ?_⟩
   ·rcases Nat.lt_or_eq_of_le (Nat.le_of_lt_succ hi)with hi | hi
    ·exact h1 i hi
    ·rw[hi];omega
   ·cases m with
    | zero =>
     have e0:CT f 0=(0,0):=rfl
     rw[e0]at h ⊢
     refine⟨Nat.lt_succ_self 0,?_,λi hi=>absurd hi (Nat.not_lt_zero i)⟩
     show f 0=0
     have:¬ 0<f 0:=h
     omega
    | succ k =>
     obtain⟨a1,a2,a3⟩:=h2 (by omega)
     exact⟨Nat.lt_succ_of_lt a1,a2,a3⟩
theorem Aj{n:Nat}{outs:Int->Bool}{k:Nat}{r:List Nat}(e:BI n outs=k::r)(j:Nat)(h:j<k):outs j=true:=by
 cases o:outs j with
 | true=>rfl
 | false =>
  exfalso
  have hk:=TD (show k∈BI n outs by rw[e];exact List.mem_cons_self)
  have hj:j∈BI n outs:=TJ (by omega) o
  have rs:=zS n outs
  rw[e]at hj rs
  rcases List.mem_cons.mp hj with z | z
  ·omega
  ·have:=(List.pairwise_cons.mp rs).1 j z
   omega
abbrev OA(cs:List Ch):Prop:=∀ (k:Nat) (c:Ch),cs[k]? =some c->∀ x∈c.nd,0<=x/\x<k
theorem Ak{cs:List Ch}{outs:Int->Bool}(hn:OA cs)(hw:BI cs.length outs≠[]):∃ c∈cs,DX cs outs=c.blk/\1<=CH cs outs c.blk:=by
 cases e:BI cs.length outs with
 | nil=>exact absurd e hw
 | cons k r =>
  have hk:=TD (show k∈BI cs.length outs by rw[e];exact List.mem_cons_self)
  have ec:=List.getElem?_eq_getElem hk.1
  revert ec
  generalize cs[k]=c
  intro ec
  obtain⟨r',er⟩:=tU ec hk.2 (λj hj=>Aj e j hj) (hn k c ec)
  refine⟨c,List.mem_of_getElem? ec,by unfold DX;rw[e];simp only[ec],?_⟩
  unfold CH
  rw[er]
  simp
theorem Al{cs:List Ch}{outs:Int->Bool}{b:Nat}(h:1<=CH cs outs b):(BI cs.length (BU cs outs b)).length<(BI cs.length outs).length:=by
 have e:BI cs.length (BU cs outs b)=(BI cs.length outs).filter λ(k:Nat)=> !BU cs outs b k:=by
  unfold BI
  rw[List.filter_filter]
  refine List.filter_congr λx _=> ?_
  unfold BU
  cases outs x<;>simp
 rw[e]
 unfold CH at h
 obtain⟨_,o2,_⟩:=LL (cs:=cs) (outs:=outs) (b:=b)
 cases eo:(outcome cs outs (λ_=>false) b).out with
 | nil=>rw[eo]at h;simp at h
 | cons k r =>
  obtain⟨q1,q2⟩:=o2 k (by rw[eo];exact List.mem_cons_self)
  refine List.length_filter_lt_length_iff_exists.mpr ⟨k,TJ (IZ q2) q1,?_⟩
  have:BU cs outs b k=true:=QN.mpr (.inr (by rw[eo];exact List.mem_cons_self))
  rw[this];simp
theorem Am{cs:List Ch}{outs:Int->Bool}{b:Nat}(h:CH cs outs b=0):BU cs outs b=outs:=by
 unfold CH at h
 funext x
 unfold BU
 rw[List.eq_nil_of_length_eq_zero h]
 simp
def HX(b r m:Nat):Nat:=if r<=b then b - r else b+m - r
def DQ(kind m:Nat)(cs:List Ch)(outs:Int->Bool)(t:Nat):Nat:=if kind<2 then(BI cs.length outs).length * m else(BI cs.length outs).length * m+HX (DX cs outs) (t % m) m
theorem OB{cs:List Ch}{outs:Int->Bool}{m:Nat}(hm:1<=m)(inn:∀ c∈cs,c.blk<m):DX cs outs<m:=by
 unfold DX
 split
 ·exact hm
 ·split
  ·next e=>exact inn _ (List.mem_of_getElem? e)
  ·exact hm
theorem eB{kind m:Nat}{cs:List Ch}{outs:Int->Bool}{t:Nat}(hm:1<=m)(inn:∀ c∈cs,c.blk<m):DQ kind m cs outs t<=cs.length * m+m:=by
 have h1:=Nat.mul_le_mul_right m (zT cs.length outs)
 have h2:=OB (outs:=outs) hm inn
 have h3:=Nat.mod_lt t (by omega:m > 0)
 unfold DQ HX
 split
 ·omega
 ·split<;>omega
theorem eC{kind m:Nat}{cs:List Ch}{outs:Int->Bool}{t:Nat}(hm:1<=m)(inn:∀ c∈cs,c.blk<m):D7 kind cs outs m t<m:=by
 unfold D7
 split
 ·exact OB hm inn
 ·exact((TL _ m).2 hm).1
 ·exact Nat.mod_lt t (by omega)
theorem Aq{u u' m:Nat}(h:u'<u):u' * m+m<=u * m:=by
 have:=Nat.mul_le_mul_right m (Nat.succ_le_of_lt h)
 rw[Nat.succ_mul]at this
 exact this
theorem TM{kind m:Nat}{cs:List Ch}{outs:Int->Bool}{t:Nat}(hm:1<=m)(inn:∀ c∈cs,c.blk<m)(hn:OA cs)(hw:BI cs.length outs≠[]):DQ kind m cs (BU cs outs (D7 kind cs outs m t)) (t+1)<DQ kind m cs outs t:=by
 obtain⟨c,hc,eo,hg⟩:=Ak hn hw
 have fall:1<=CH cs outs (D7 kind cs outs m t)->DQ kind m cs (BU cs outs (D7 kind cs outs m t)) (t+1)<DQ kind m cs outs t:=λh=>by
  have h1:=Aq (m:=m) (Al h)
  have h2:=OB (outs:=BU cs outs (D7 kind cs outs m t)) hm inn
  have h3:=Nat.mod_lt (t+1) (by omega:m > 0)
  unfold DQ
  split
  ·omega
  ·have:HX (DX cs (BU cs outs (D7 kind cs outs m t))) ((t+1) % m) m<m:=by unfold HX;split<;>omega
   omega
 match kind with
 | 0=>exact fall (by show 1<=CH cs outs (DX cs outs);rw[eo];exact hg)
 | 1 =>
  obtain⟨b1,b2⟩:=TL (CH cs outs) m
  refine fall ?_
  show 1<=CH cs outs (CT (CH cs outs) m).1
  have:=b1 _ (inn c hc)
  rw[(b2 hm).2.1]
  omega
 | j+2 =>
  by_cases h:1<=CH cs outs (D7 (j+2) cs outs m t)
  ·exact fall h
  ·have h0:CH cs outs (D7 (j+2) cs outs m t)=0:=by omega
   rw[Am h0]
   have nb:t % m≠DX cs outs:=λe=>by
    rw[eo]at e
    have:D7 (j+2) cs outs m t=c.blk:=e
    rw[this]at h0
    omega
   unfold DQ
   rw[if_neg (by omega),if_neg (by omega)]
   have h2:=OB (outs:=outs) hm inn
   have h3:=Nat.mod_lt t (by omega:m > 0)
   have h4:(t+1) % m=(t % m+1) % m:=by rw[Nat.mod_add_mod]
   have:HX (DX cs outs) ((t+1) % m) m<HX (DX cs outs) (t % m) m:=by
    rw[h4]
    generalize t % m=r at *
    generalize DX cs outs=b at *
    unfold HX
    rcases Nat.lt_or_eq_of_le (Nat.succ_le_of_lt h3)with h5 | h5
    ·rw[Nat.mod_eq_of_lt h5]
     split<;>split<;>omega
    ·rw[show r+1=m from h5,Nat.mod_self]
     split<;>split<;>omega
   omega
theorem Av(h:LV K a vs H Q E):QW K a (λ_=>E) (A7 Q) (A5 ["self","number"] vs) H:=by
 obtain⟨A,w,rows,n,cs,outs,k,c,rfl,T,B,ec,q⟩:=h
 obtain⟨dx,hb⟩:=B.bk.ob
 obtain⟨xs,p,e1,e2,dx2,pl,nt,c1,c2,c3⟩:=B.bk.at ec
 push_cast[QW,↓t6]
 refine⟨_,_,_,hb,T.cl,T.nM,_,F4,BD (SqL.of e1) rfl e2 ?_⟩
 push_cast[]
 exact⟨_,_,_,c1,T.cc,T.nP,_,XV,BH c2 (n:=0) rfl rfl q⟩
theorem Aw(h:LV K a vs H Q E):vs.length=2:=by
 obtain⟨_,_,_,_,_,_,_,_,rfl,_⟩:=h
 rfl
theorem Ax(cl:Addr)(w n:Int):(pf cl w n).lookup ("blocks":Str)=none:=IX _ _ _ (by decide +kernel) (by decide +kernel) (by decide +kernel)
theorem Ay(h:HU K a vs H Q E):RH K a (λ_=>E) (A7 Q) (A5 ["self"] vs) H:=by
 obtain⟨A,w,rows,n,cs,outs,rfl,T,TP,B,q⟩:=h
 obtain⟨dx,hb⟩:=B.bk.ob
 obtain⟨dp,hp⟩:=B.pk.ob
 push_cast[RH,↓uQ]
 exact⟨_,_,_,hb,T.cl,T.nG,_,JA,_,rfl,_,_,hp,Ax _ _ _,_,_,_,_,_,rfl,TP,B.pk,q⟩
theorem Az(h:HU K a vs H Q E):vs.length=1:=by
 obtain⟨_,_,_,_,_,_,rfl,_⟩:=h
 rfl
theorem Bb(h:LW K a vs H Q E):QT K a (λ_=>E) (A7 Q) (A5 ["self"] vs) H:=by
 obtain⟨x,dx,rfl,X,hx,q⟩:=h
 push_cast[QT,↓tY]
 exact⟨_,_,_,hx,X.cl,X.nT,by decide,q⟩
theorem Bc(h:LW K a vs H Q E):vs.length=1:=by
 obtain⟨_,_,rfl,_⟩:=h
 rfl
theorem Bd(h:JG K a vs H Q E):RF K a (λ_=>E) (A7 Q) (A5 ["self","hold"] vs) H:=by
 obtain⟨x,A,w,rows,n,cs,outs,rfl,T,B,hw,q⟩:=h
 obtain⟨dx,hb⟩:=B.bk.ob
 push_cast[RF,↓uK]
 refine⟨_,_,hb,CO (by decide +kernel),_,_,hb,CO (by decide +kernel),A,w,rows,n,cs,outs,rfl,T,B,λl H1 hl s1 el=> ?_⟩
 cases e:BI cs.length outs with
 | nil=>exact absurd e hw
 | cons k r =>
  rw[e]at el
  have hk:=TD (show k∈BI cs.length outs by rw[e];exact List.mem_cons_self)
  have ec:=List.getElem?_eq_getElem hk.1
  revert ec
  generalize cs[k]=c
  intro ec
  refine BD (SqL.of el) (n:=0) (v:=.int k) rfl rfl ⟨A,w,rows,n,cs,outs,k,c,rfl,T,B.same s1,ec,?_⟩
  have:DX cs outs=c.blk:=by unfold DX;rw[e];simp only[ec]
  rw[<-this]
  exact q _ s1
theorem Bg(h:JG K a vs H Q E):vs.length=2:=by
 obtain⟨_,_,_,_,_,_,_,rfl,_⟩:=h
 rfl
theorem Bh(h:JH K a vs H Q E):SA K a (λ_=>E) (A7 Q) (A5 ["self","hold","best","most","block","many"] vs) H:=by
 obtain⟨x,A,w,rows,n,cs,outs,rfl,T,TP,B,hm,q⟩:=h
 obtain⟨dx,hb⟩:=B.bk.ob
 push_cast[SA,↓RZ,↓R0,↓R1,↓R3,↓R4,↓R6,↓R7,↓R9]
 refine⟨_,_,hb,CO (by decide +kernel),A,w,rows,n,cs,outs,rfl,T,TP,B,?_⟩
 push_cast[]
 refine⟨by omega,by omega,?_⟩
 have bsz:=B.bk.sz
 refine HH (λi σ H'=>Same H H'/\∃ y4 y5,σ=[some x,some (.ref A.b),some (.int (CT (CH cs outs) i).1),some (.int (CT (CH cs outs) i).2),y4,y5]) ⟨Same.refl _,_,_,rfl⟩ (λi σ H' hi ⟨s1,y4,y5,eσ⟩=> ?_) (λσ H' ⟨s1,y4,y5,eσ⟩=> ?_)
 ·subst eσ
  push_cast[↓RZ,↓R0,↓R1,↓R3,↓R4,↓R6,↓R7,↓R9,Int.zero_add]
  refine⟨_,_,s1 _ _ hb,CO (by decide +kernel),λd hd=> ?_⟩
  have s2:=AX (o:=.dK []) hd
  refine⟨A,w,rows,n,cs,outs,i,d,[],rfl,T,(B.same s1).same s2,hi,AK,by simp,λt ol hl H2 hol hhl nol s3 told=>BH told.1 (n:=0) rfl rfl ?_⟩
  have ek:(B0 []:Int->Bool)=λ_=>false:=by funext x;rfl
  rw[ek]at told
  have s13:=(s1.trans s2).trans s3
  push_cast[]
  refine⟨CH cs outs i,.inl ⟨_,SqL.of told.2.1,by rw[List.length_map];rfl⟩,?_⟩
  show if((CT (CH cs outs) i).2:Int)<(CH cs outs i:Int)then _ else _
  have eb:CT (CH cs outs) (i+1)=if(CT (CH cs outs) i).2<CH cs outs i then(i,CH cs outs i)else CT (CH cs outs) i:=rfl
  by_cases h:(CT (CH cs outs) i).2<CH cs outs i
  ·rw[if_pos (by omega),eb,if_pos h]
   exact⟨s13,rfl,rfl⟩
  ·rw[if_neg (by omega),eb,if_neg h]
   exact⟨s13,rfl,rfl⟩
 ·subst eσ
  push_cast[↓RZ,↓R0,↓R1,↓R3,↓R4,↓R6,↓R7,↓R9]
  exact q _ s1
theorem Bj(h:JH K a vs H Q E):vs.length=2:=by
 obtain⟨_,_,_,_,_,_,_,rfl,_⟩:=h
 rfl
theorem Bk(h:JI K a vs H Q E):SB K a (λ_=>E) (A7 Q) (A5 ["self","hold","block"] vs) H:=by
 obtain⟨x,dx,t,A,w,rows,n,cs,outs,rfl,⟨T,TP,X⟩,B,hr,hx,q⟩:=h
 obtain⟨db,hb⟩:=B.bk.ob
 push_cast[SB,↓u7,↓u8,↓u9]
 refine⟨_,_,_,hx,X.cl,X.nT,_,List.lookup_cons_self,_,_,hb,CO (by decide +kernel),A,w,rows,n,cs,outs,rfl,T,TP,B,?_⟩
 push_cast[]
 refine⟨by omega,_,_,_,hx,X.cl,X.nT,_,List.lookup_cons_self,?_⟩
 push_cast[]
 exact⟨_,_,hx,by simp,q⟩
theorem Bl(h:JI K a vs H Q E):vs.length=2:=by
 obtain⟨_,_,_,_,_,_,_,_,_,rfl,_⟩:=h
 rfl
theorem BookAt.kept{H':Hp}{A:BA}{w:Nat}{rows:List (List V)}{n:Nat}{cs:List Ch}{outs:Int->Bool}(B:AY a H A w rows n cs outs)(k:∀ x o,H x=some o->(∀ C dx fs,o=.ins C dx fs->2<=fs.length)->H' x=some o):AY a H' A w rows n cs outs:=by
 obtain⟨⟨⟨dx,e1⟩,⟨chs,e2,e3⟩,e4,e5,e6,⟨kvs,e7,e8⟩,⟨kvo,e9,e10⟩,r1,r2,r3,r4,r5⟩,⟨⟨dp,p1⟩,⟨ts,p2,p3⟩,p4,p5,p6⟩,nb⟩:=B
 have no:∀ {o:HO},(∀ C dx fs,o≠.ins C dx fs)->∀ C dx fs,o=.ins C dx fs->2<=fs.length:=λh C dx fs e=>absurd e (h C dx fs)
 refine⟨⟨⟨dx,k _ _ e1 λC dx fs e=>by cases e;simp[bf]⟩,⟨chs,k _ _ e2 (no λ_ _ _ z=>by cases z),Paired.mapP e3 λx c h=> ?_⟩,k _ _ e4 (no λ_ _ _ z=>by cases z),λi l h=>k _ _ (e5 i l h) (no λ_ _ _ z=>by cases z),e6,⟨kvs,k _ _ e7 (no λ_ _ _ z=>by cases z),e8⟩,⟨kvo,k _ _ e9 (no λ_ _ _ z=>by cases z),e10⟩,r1,r2,r3,r4,r5⟩,
  ⟨⟨dp,k _ _ p1 λC dx fs e=>by cases e;simp[pf]⟩,⟨ts,k _ _ p2 (no λ_ _ _ z=>by cases z),Paired.mapP p3 λt r e=>k _ _ e (no λ_ _ _ z=>by cases z)⟩,p4,p5,p6⟩,nb⟩
 obtain⟨dx,pl,nt,c1,c2,c3⟩:=h
 exact⟨dx,pl,nt,k _ _ c1 λC dx fs e=>by cases e;simp[DW],k _ _ c2 (no λ_ _ _ z=>by cases z),k _ _ c3 (no λ_ _ _ z=>by cases z)⟩
theorem BroomAt.few{x:Addr}{kind t:Nat}(h:BroomAt a H x kind t):∃ C dx fs,H x=some (.ins C dx fs)/\fs.length<=1:=by
 match kind with
 | 0=>obtain⟨dx,e⟩:=h;exact⟨_,_,_,e,by simp⟩
 | 1=>obtain⟨dx,e⟩:=h;exact⟨_,_,_,e,by simp⟩
 | j+2=>obtain⟨dx,e⟩:=h;exact⟨_,_,_,e,by simp⟩
theorem BroomAt.keep{H':Hp}{x:Addr}{kind t:Nat}(h:BroomAt a H x kind t)(k:∀ o,H x=some o->H' x=some o):BroomAt a H' x kind t:=by
 match kind with
 | 0=>obtain⟨dx,e⟩:=h;exact⟨_,k _ e⟩
 | 1=>obtain⟨dx,e⟩:=h;exact⟨_,k _ e⟩
 | j+2=>obtain⟨dx,e⟩:=h;exact⟨_,k _ e⟩
theorem BookAt.br{H':Hp}{A:BA}{w:Nat}{rows:List (List V)}{n:Nat}{cs:List Ch}{outs:Int->Bool}{x:Addr}{kind t:Nat}(B:AY a H A w rows n cs outs)(h:BroomAt a H x kind t)(s:SameBut (· =x) H H'):AY a H' A w rows n cs outs :=
 B.kept λy o e two=>s _ _ e λz=>by
  obtain⟨C,dx,fs,e',l⟩:=h.few
  rw[z,e']at e
  cases e
  have:=two _ _ _ rfl
  omega
theorem BroomAt.noW{A:BA}{w:Nat}{rows:List (List V)}{n:Nat}{cs:List Ch}{outs:Int->Bool}{x:Addr}{kind t:Nat}(h:BroomAt a H x kind t)(B:AY a H A w rows n cs outs):¬ A.W x:=by
 obtain⟨C,dx,fs,e,l⟩:=h.few
 rintro (f | f)
 ·exact(B.loose f).2 _ _ _ e
 ·obtain⟨dp,p1⟩:=B.pk.ob
  rw[f,p1]at e
  cases e
  simp[pf]at l
theorem Bm{br:Addr}{kind t:Nat}{A:BA}{w:Nat}{rows:List (List V)}{n:Nat}{cs:List Ch}{outs:Int->Bool}{QC:VK}(TT:D8 K a)(B:AY a H A w rows n cs outs)(h:BroomAt a H br kind t)(hr:1<=rows.length)(hr':rows.length<=1000)(hw:kind=0->BI cs.length outs≠[])
  (q:∀ H',BroomAt a H' br kind (t+1)->SameBut (· =br) H H'->AY a H' A w rows n cs outs->QC (.int (D7 kind cs outs rows.length t)) H') :
  (∃ dx fs,H br=some (.ins (a "Broom") dx fs)/\fs.lookup (Str.ofString "chosen")=none/\JG K a [.ref br,.ref A.b] H QC E)\/(∃ dx fs,H br=some (.ins (a "Fullest") dx fs)/\fs.lookup (Str.ofString "chosen")=none/\JH K a [.ref br,.ref A.b] H QC E)\/∃ dx fs,H br=some (.ins (a "Round") dx fs)/\fs.lookup (Str.ofString "chosen")=none/\JI K a [.ref br,.ref A.b] H QC E:=by
 match kind with
 | 0 =>
  obtain⟨dx,e⟩:=h
  exact .inl ⟨_,_,e,rfl,_,A,w,rows,n,cs,outs,rfl,TT.1,B,hw rfl,λH' s=>q _ ⟨dx,s _ _ e⟩ s.sb (B.same s)⟩
 | 1 =>
  obtain⟨dx,e⟩:=h
  exact .inr (.inl ⟨_,_,e,rfl,_,A,w,rows,n,cs,outs,rfl,TT.1,TT.2.1,B,hr',λH' s=>q _ ⟨dx,s _ _ e⟩ s.sb (B.same s)⟩)
 | j+2 =>
  obtain⟨dx,e⟩:=h
  have s:SameBut (· =br) H (upd H br (.ins (a "Round") dx [("turns",.int (t+1:Nat))])):=λy o e n=>by rw[AI n];exact e
  exact .inr (.inr ⟨_,_,e,by simp[List.lookup,show((Str.ofString "chosen") ==(Str.ofString "turns"))=false from by decide +kernel],br,dx,t,A,w,rows,n,cs,outs,rfl,TT,B,hr,e,q _ ⟨dx,AK⟩ s (B.br (kind:=j+2) ⟨dx,e⟩ s)⟩)
theorem Bp{kind m:Nat}{cs:List Ch}{outs:Int->Bool}{t i:Nat}:CC (F8 kind m cs outs t (i+1))=CC (F8 kind m cs outs t i)++[.int (F7 kind m cs outs t i)]:=by
 unfold CC F8
 rw[List.range_succ]
 simp
theorem JR{kind m:Nat}{cs:List Ch}{outs:Int->Bool}{t:Nat}{rows:List (List V)}:∀ i,(E5 kind m cs outs t rows i).length=rows.length
 | 0=>rfl
 | i+1=>by
  show((E5 kind m cs outs t rows i).set _ _).length=_
  rw[List.length_set]
  exact JR i
def eD(a:Ad)(H:Hp)(br:Addr)(kind t:Nat)(A:BA)(w:Nat)(rows:List (List V))(n:Nat)(cs:List Ch)(outs:Int->Bool)(l:Addr)(i:Nat)(H':Hp):Prop :=
 H' l=some (.lst (CC (F8 kind rows.length cs outs t i)))/\AY a H' A w (E5 kind rows.length cs outs t rows i) (n+i) cs (DG kind rows.length cs outs t i)/\BroomAt a H' br kind (t+i)/\SameBut (λx=>A.W x\/x=br) H H'/\(∀ j,j<i->BI cs.length (DG kind rows.length cs outs t j)≠[])/\i+DQ kind rows.length cs (DG kind rows.length cs outs t i) (t+i)<=cs.length * rows.length+rows.length
theorem Bq(h:JJ K a vs H Q E):SK K a (λ_=>E) (A7 Q) (A5 ["hold","broom","row","block"] vs) H:=by
 obtain⟨br,kind,t,A,w,rows,n,cs,outs,rfl,TT,B,hr,hr',hcs,hbr,hk,q⟩:=h
 push_cast[SK,↓vY]
 refine⟨by decide,λl hl=> ?_⟩
 push_cast[↓v5]
 have s0:=AX (o:=.lst []) hl
 have inn:∀ c∈cs,c.blk<rows.length:=λc hc=>by rw[<-B.nb];exact(B.bk.inn c hc).1
 have need:OA cs:=λk c e=>(B.bk.need k c e).1
 have nm:cs.length * rows.length<=90 * 10:=Nat.mul_le_mul hcs hr'
 refine⟨λm σ H'=>∃ i,m=DQ kind rows.length cs (DG kind rows.length cs outs t i) (t+i)/\eD a H br kind t A w rows n cs outs l i H'/\∃ y,σ=[some (.ref A.b),some (.ref br),some (.ref l),y],⟨_,0,rfl,⟨AK,B.same s0,hbr.keep λo e=>s0 _ _ e,s0.sb,λj hj=>absurd hj (Nat.not_lt_zero j),by rw[Nat.zero_add];exact eB hr inn⟩,_,rfl⟩,?_⟩
 rintro m σ H1 ⟨i,em,⟨e1,B1,br1,s1,w1,b1⟩,y,rfl⟩
 obtain⟨dx,hb⟩:=B1.bk.ob
 push_cast[]
 refine⟨_,_,hb,CO (by decide +kernel),A,w,_,_,cs,_,rfl,TT.1,B1,λwl H2 hwl s2 ewl=>⟨!(CC (BI cs.length (DG kind rows.length cs outs t i))).isEmpty,.inl ⟨_,SqL.of ewl,rfl⟩,?_⟩⟩
 have B2:=B1.same s2
 have e2:=s2 _ _ e1
 have br2:=br1.keep λo e=>s2 _ _ e
 have nlB:¬ A.W l:=λf=>by
  rcases f with f | f
  ·exact B.off hl f
  ·obtain⟨dp,p1⟩:=B.pk.ob
   rw[<-f,hl]at p1;cases p1
 have nlbr:l≠br:=λf=>by
  obtain⟨C,dx,fs,e,_⟩:=hbr.few
  rw[<-f,hl]at e;cases e
 by_cases hw:BI cs.length (DG kind rows.length cs outs t i)=[]
 ·rw[hw,if_neg (by simp[CC])]
  push_cast[↓v6]
  exact q l i H2 ⟨w1,hw⟩ (by omega) hl e2 B2 br2 (s1.trans s2.sb)
 ·rw[if_pos (by
   cases e:BI cs.length (DG kind rows.length cs outs t i)with
   | nil=>exact absurd e hw
   | cons _ _=>simp[CC])]
  refine⟨λσ' H'=>(∃ y,σ'=[some (.ref A.b),some (.ref br),some (.ref l),y])/\eD a H br kind t A w rows n cs outs l (i+1) H',λσ' H' ⟨⟨y,eσ⟩,I⟩=>⟨_,?_,i+1,rfl,I,y,eσ⟩,?_⟩
  ·rw[em]
   exact TM hr inn need hw
  push_cast[↓vZ]
  refine Bm TT B2 br2 (by rw[JR];exact hr) (by rw[JR];omega) (λ_=>hw) λH3 br3 s3 B3=> ?_
  rw[JR]
  push_cast[↓v0,↓v3]
  obtain⟨dx3,hb3⟩:=B3.bk.ob
  have dlt:=eC (kind:=kind) (outs:=DG kind rows.length cs outs t i) (t:=t+i) hr inn
  refine⟨_,_,hb3,CO (by decide +kernel),A,w,_,_,cs,_,_,rfl,TT.1,TT.2.1,B3,λb' row tt ol hl4 H4 eb er _ _ _ _ B4 s4=> ?_,λz=> ?_⟩
  ·have eb:b'=F7 kind rows.length cs outs t i:=by show b'=D7 _ _ _ _ _;omega
   subst eb
   have eg:(E5 kind rows.length cs outs t rows i).getD (F7 kind rows.length cs outs t i) []=row:=by rw[List.getD_eq_getElem?_getD,er];rfl
   rw[<-eg]at B4
   have e3:=s3 _ _ e2 nlbr
   have e4:=s4 _ _ e3 nlB
   have br4:=br3.keep (H':=H4) λo e=>s4 _ _ e (br3.noW B3)
   have tl:(CC (F8 kind rows.length cs outs t i)).length=i:=by simp[CC,F8]
   refine⟨.inl ⟨rfl,_,SqL.of e4⟩,l,_,_,rfl,rfl,e4,Nat.lt_of_lt_of_le (show(CC (F8 kind rows.length cs outs t i)).length<1000 by rw[tl];omega) (by decide),?_⟩
   have s5:SameBut (· =l) H4 (upd H4 l (.lst (CC (F8 kind rows.length cs outs t i)++[.int (F7 kind rows.length cs outs t i)]))):=λy o e n=>by rw[AI n];exact e
   refine⟨by rw[Bp];exact AK,B4.sb s5 (λx hx=>hx ▸ E3 e4) (λx hx f=>nlB (.inl (hx ▸ f))),br4.keep λo e=>s5 _ _ e nlbr.symm,λy o e ny=> ?_,λj hj=> ?_,?_⟩
   ·have e3:=s3 _ _ (s2 _ _ (s1 _ _ e ny)) λz=>ny (.inr z)
    exact s5 _ _ (s4 _ _ e3 λz=>ny (.inl z)) (AS e hl)
   ·rcases Nat.lt_or_eq_of_le (Nat.le_of_lt_succ hj)with hj | hj
    ·exact w1 j hj
    ·rw[hj];exact hw
   ·have:=TM (kind:=kind) (t:=t+i) hr inn need hw
    show i+1+DQ kind rows.length cs (BU cs _ _) (t+i+1)<=_
    omega
  ·rw[JR]at z
   omega
theorem Bv(h:JJ K a vs H Q E):vs.length=2:=by
 obtain⟨_,_,_,_,_,_,_,_,_,rfl,_⟩:=h
 rfl
theorem eE:∀ {n:Nat} {v:V},GoodV n H v->∃ d,Dat K H n v d
 | _+1,.int i,_=>⟨_,Dat.int i⟩
 | _+1,.non,_=>⟨_,Dat.non⟩
 | _+1,.str z,h=>⟨.str z,.str z,h,Nat.zero_le _⟩
 | n+1,.ref p,⟨xs,h1,h2,h3⟩=>by
  have:∀ (l:List V),(∀ v∈l,GoodV n H v)->∃ ds,Paired (Dat K H n) l ds:=λl=>by
   induction l with
   | nil=>exact λ_=>⟨[],.nil⟩
   | cons x r ih =>
    intro h
    obtain⟨d,hd⟩:=eE (h x (List.mem_cons_self ..))
    obtain⟨ds,hds⟩:=ih λv hv=>h v (List.mem_cons_of_mem _ hv)
    exact⟨d::ds,.cons hd hds⟩
  obtain⟨ds,hds⟩:=this xs h3
  exact⟨_,Dat.tup (SqT.of h1) hds⟩
def FI(H H':Hp):Prop:=∀ b xs,H b=some (.tup xs)->H' b=some (.tup xs)
theorem GoodV.keep{H H':Hp}(k:FI H H'):∀ {n:Nat} {v:V},GoodV n H v->GoodV n H' v
 | 0,_,h=>h
 | _+1,.int _,_=>trivial
 | _+1,.non,_=>trivial
 | _+1,.str _,h=>h
 | n+1,.ref p,⟨xs,h1,h2,h3⟩=>⟨xs,k _ _ h1,h2,λv hv=>(h3 v hv).keep k⟩
theorem GoodV.up{H:Hp}:∀ {n:Nat} {v:V},GoodV n H v->GoodV (n+1) H v
 | 0,_,h=>h.elim
 | _+1,.int _,_=>trivial
 | _+1,.non,_=>trivial
 | _+1,.str _,h=>h
 | n+1,.ref p,⟨xs,h1,h2,h3⟩=>⟨xs,h1,h2,λv hv=>(h3 v hv).up⟩
theorem Same.tk{H H':Hp}(s:Same H H'):FI H H':=λb xs e=>s _ _ e
theorem good7.keep{H H':Hp}{rows:List (List V)}(g:good7 H rows)(k:FI H H'):good7 H' rows:=λr hr v hv=>(g r hr v hv).keep k
theorem E6{c A B:Prop}[Decidable c](h:c)(x:A):if c then A else B:=by rw[if_pos h];exact x
theorem C3{c A B:Prop}[Decidable c](h:¬ c)(x:B):if c then A else B:=by rw[if_neg h];exact x
theorem eF{lo:Int}(h0:0<=lo)(h1:lo<13):PyData.strOk (D5 (Str.ofString "pQ 7~") lo)=true:=by
 have:∀ n:Fin 13,PyData.strOk (D5 (Str.ofString "pQ 7~") (n.val:Int))=true:=by decide +kernel
 have:=this ⟨lo.toNat,by omega⟩
 rwa [show(((⟨lo.toNat,by omega⟩:Fin 13).val:Nat):Int)=lo from by simp;omega]at this
theorem Bw(h:JM K a vs H Q E):SJ K a (λ_=>E) (A7 Q) (A5 ["kind"] vs) H:=by
 obtain⟨k,rfl,TT,q⟩:=h
 push_cast[SJ,↓vU]
 have mk:∀ {H:Hp} {x dx C:Addr},H x=none->H dx=none->Same H (upd (upd H dx (.own x)) x (.ins C dx [])):=λhx hdx y o e=>by
  rw[AI (AS e hx),AI (AS e hdx)];exact e
 by_cases k0:k=0
 ·subst k0
  refine E6 rfl ?_
  push_cast[↓vT]
  exact λx dx hx hdx nd=>q x _ hx (mk hx hdx) ⟨dx,AK⟩
 refine C3 (by omega) ?_
 push_cast[↓vW]
 by_cases k1:k=1
 ·subst k1
  refine E6 rfl ?_
  push_cast[↓vV]
  exact λx dx hx hdx nd=>q x _ hx (mk hx hdx) ⟨dx,AK⟩
 refine C3 (by omega) ?_
 push_cast[↓vX]
 refine λx dx hx hdx nd=>⟨x,dx,rfl,TT.2.2,AK,rfl,q x _ hx (λy o e=> ?_) ?_⟩
 ·rw[AI (AS e hx),AI (AS e hx),AI (AS e hdx)];exact e
 ·rw[show min k 2=2 by omega]
  exact⟨dx,AK⟩
theorem Bx(h:JM K a vs H Q E):vs.length=1:=by
 obtain⟨_,rfl,_⟩:=h
 rfl
theorem By(h:HV K a vs H Q E):RY K a (λ_=>E) (A7 Q) (A5 ["cell","far","text"] vs) H:=by
 obtain⟨c,rfl,q⟩:=h
 push_cast[RY,↓u0,↓u1,↓u6,↓DA]
 have l0:=DP (c:=c) (p:=10007) (m:=13) (by decide)
 have l1:=E4 (c:=c) (p:=10007) (m:=13) (by decide)
 have r0:=DP (c:=c) (p:=10037) (m:=6) (by decide)
 have r1:=E4 (c:=c) (p:=10037) (m:=6) (by decide)
 generalize BX c 10009 7 - 3=sm
 generalize BX c 10007 13=lo at l0 l1 ⊢
 generalize BX c 10037 6=ix at r0 r1 ⊢
 refine⟨⟨by decide,by decide,by decide⟩,by decide,.inr ⟨by decide,by decide⟩,WR,.inl ⟨by decide,by decide⟩,by decide,WR,l0,by omega,by decide,by decide,λp hp=>⟨by decide,λp1 hp1=>⟨by decide,λp2 hp2=> ?_⟩⟩⟩
 generalize (c % 10 ^ 40 * 1000000000039+29) % (2 * 10 ^ 30+1) - 10 ^ 30=far at hp1 hp2 ⊢
 have s0:=AX (o:=.tup [V.int far,V.str (D5 (Str.ofString "pQ 7~") lo)]) hp
 have s1:=AX (o:=.tup []) hp1
 have s2:=AX (o:=.lst [V.non,V.int far,V.int sm,V.str (D5 (Str.ofString "pQ 7~") lo),V.ref p,V.ref p1]) hp2
 have ss:=(s0.trans s1).trans s2
 have e0:=s2 _ _ (s1 _ _ (AK (H:=H) (a:=p) (o:=.tup [V.int far,V.str (D5 (Str.ofString "pQ 7~") lo)])))
 have e1:=s2 _ _ (AK (H:=upd H p (.tup [V.int far,V.str (D5 (Str.ofString "pQ 7~") lo)])) (a:=p1) (o:=.tup []))
 have e2:=AK (H:=upd (upd H p (.tup [V.int far,V.str (D5 (Str.ofString "pQ 7~") lo)])) p1 (.tup [])) (a:=p2) (o:=.lst [V.non,V.int far,V.int sm,V.str (D5 (Str.ofString "pQ 7~") lo),V.ref p,V.ref p1])
 revert ss e0 e1 e2
 generalize upd (upd (upd H p (.tup [V.int far,V.str (D5 (Str.ofString "pQ 7~") lo)])) p1 (.tup [])) p2 (.lst [V.non,V.int far,V.int sm,V.str (D5 (Str.ofString "pQ 7~") lo),V.ref p,V.ref p1])=H3
 intro ss e0 e1 e2
 have g:∀ {v:V},GoodV 7 H3 v->Q v H3:=λh=>q _ _ ss h
 rcases(by omega:ix=0\/ix=1\/ix=2\/ix=3\/ix=4\/ix=5)with e | e | e | e | e | e<;>subst e
 ·exact BD (SqL.of e2) (n:=0) rfl rfl (g trivial)
 ·exact BD (SqL.of e2) (n:=1) rfl rfl (g trivial)
 ·exact BD (SqL.of e2) (n:=2) rfl rfl (g trivial)
 ·exact BD (SqL.of e2) (n:=3) rfl rfl (g (eF l0 l1))
 ·refine BD (SqL.of e2) (n:=4) rfl rfl (g ⟨_,e0,by simp,λv hv=> ?_⟩)
  simp only[List.mem_cons,List.not_mem_nil,or_false]at hv
  rcases hv with rfl | rfl
  ·trivial
  ·exact eF l0 l1
 ·exact BD (SqL.of e2) (n:=5) rfl rfl (g ⟨_,e1,by simp,by simp⟩)
theorem Bz(h:HV K a vs H Q E):vs.length=1:=by
 obtain⟨_,rfl,_⟩:=h
 rfl
theorem Cb(h:DY K a 0 vs H Q E):False:=by
 obtain⟨x,y,_,h,_⟩:=h
 rcases h with⟨_,h⟩ | ⟨_,_,_,m,h,_⟩
 ·exact h
 ·omega
theorem eG{n:Nat}{b:Bool}{p p':Addr}{xs:List V}(h1:H p=some (cond b (.lst xs) (.tup xs)))(h2:H p'=some (cond b (.lst xs) (.tup xs)))(hl:xs.length<=2000)(hg:∀ v∈xs,GoodV n H v)(q:∀ H',Same H H'->Q (.bl true) H') :
  JO K a n (λ_=>E) (A7 Q) (A5 ["found","due","one","other"] [.ref p,.ref p']) H:=by
 have sq:∀ {H':Hp} {x:Addr},H' x=some (cond b (.lst xs) (.tup xs))->SqB K b H' x xs:=λ{H' x} e=>by
  cases b with
  | true=>exact SqL.of e
  | false=>exact SqT.of e
 have ty:∀ {H':Hp} {x:Addr},H' x=some (cond b (.lst xs) (.tup xs))->TyX K H' (.ref x) (.type (cond b "list" "tuple")):=λ{H' x} e=>by
  cases b with
  | true=>exact .inl (.lst e)
  | false=>exact .inl (.tup e)
 have kl:W.kitOne K (.type (cond b "list" "tuple")) (.type "list")=some b:=by cases b<;>rfl
 have ka:W.kitAny K (.type (cond b "list" "tuple")) [.type "list",.type "tuple"]=some true:=by cases b<;>rfl
 push_cast[JO,↓c8]
 refine⟨by decide,λt1 ht1=> ?_⟩
 have s1:=AX (o:=.tup [.ty "list",.ty "tuple"]) ht1
 refine PF (ty (s1 _ _ h2)) (SqT.of AK) (.cons (.ty _) (.cons (.ty _) .nil)) ka ⟨true,rfl,E6 rfl ?_⟩
 revert s1
 generalize upd H t1 (.tup [.ty "list",.ty "tuple"])=H1
 intro s1
 push_cast[↓w8]
 refine HI (ty (s1 _ _ h1)) (.ty _) kl (HI (ty (s1 _ _ h2)) (.ty _) kl ?_)
 push_cast[]
 refine⟨by decide,λt2 ht2=> ?_⟩
 have s2:=s1.trans (AX (o:=.tup [.ty "list",.ty "tuple"]) ht2)
 refine PF (ty (s2 _ _ h1)) (SqT.of AK) (.cons (.ty _) (.cons (.ty _) .nil)) ka ⟨true,rfl,C3 (by decide) ?_⟩
 revert s2
 generalize upd H1 t2 (.tup [.ty "list",.ty "tuple"])=H2
 intro s2
 push_cast[↓xA]
 have ln:∀ {x:Addr},H2 x=some (cond b (.lst xs) (.tup xs))->MT K (.ref x) H2 xs.length:=λ{x} e=>by
  cases b with
  | true=>exact .inl ⟨_,SqL.of e,rfl⟩
  | false=>exact .inr ⟨_,SqT.of e,rfl⟩
 refine⟨xs.length,ln (s2 _ _ h1),xs.length,ln (s2 _ _ h2),C3 (λz=>z rfl) ?_⟩
 push_cast[↓xD,↓qF]
 have h1':=s2 _ _ h1
 have h2':=s2 _ _ h2
 refine⟨b,⟨_,sq h1'⟩,b,⟨_,sq h2'⟩,?_⟩
 refine qG rfl (λi σ H'=>Same H2 H'/\∃ x y,σ=[some (.ref p),some (.ref p'),x,y]) ⟨Same.refl _,_,_,rfl⟩ (λi σ H' _ ⟨s,_⟩=>⟨sq (s _ _ h1'),sq (s _ _ h2')⟩) (λi x y σ H' t hx hy ⟨s,u,v,e⟩ ht=> ?_) (λσ H' ⟨s,_⟩=>by push_cast[↓xE];exact q _ (s2.trans s))
 rw[hx]at hy
 cases hy
 subst e
 push_cast[]
 refine⟨_,SqT.of AK,rfl,_,_,rfl,_,_,rfl,rfl,?_⟩
 push_cast[↓xC]
 have s3:=s.trans (AX (o:=.tup [x,x]) ht)
 refine⟨x,x,rfl,.inl ⟨rfl,(hg x (List.mem_of_getElem? hx)).keep (s2.trans s3).tk⟩,λH3 s4=> ?_⟩
 push_cast[]
 exact s3.trans s4
theorem Cc{n:Nat}(h:DY K a (n+1) vs H Q E):JO K a n (λ_=>E) (A7 Q) (A5 ["found","due","one","other"] vs) H:=by
 obtain⟨x,y,rfl,h,q⟩:=h
 rcases h with⟨rfl,h⟩ | ⟨p,p',xs,m,e,rfl,rfl,h1,h2,hl,hg⟩
 ·have tup:∀ {t:Value} {x:V},(∀ H',TyX K H' x t)->W.kitAny K t [.type "list",.type "tuple"]=some false->(∀ H',Same H H'->AL (SQ K a n (λ_=>E) (λ_=>E)) (AL (SS K a n (λ_=>E) (λ_=>E)) (ST K a n (λ_=>E) (λ_=>E))) (A7 Q) [some x,some x,none,none] H')->JO K a n (λ_=>E) (A7 Q) (A5 ["found","due","one","other"] [x,x]) H:=λ{t x} ty ka r=>by
   push_cast[JO,↓c8]
   refine⟨by decide,λt1 ht1=>PF (ty _) (SqT.of AK) (.cons (.ty _) (.cons (.ty _) .nil)) ka ⟨false,rfl,C3 (by decide) (r _ (AX ht1))⟩⟩
  cases x with
  | ref p =>
   obtain⟨xs,h1,h2,h3⟩:=h
   exact eG (b:=false) h1 h1 (by omega) h3 q
  | int i =>
   refine tup (t:=.type "int") (λ_=>.inl (.int i)) rfl λH' s=> ?_
   push_cast[↓SR,↓dB]
   refine HI (.inl (.int i)) (.ty _) (b:=false) rfl ?_
   push_cast[↓xH]
   refine HI (.inl (.int i)) (.ty _) (b:=true) rfl ⟨true,rfl,E6 rfl (HI (.inl (.int i)) (.ty _) (b:=false) rfl ?_)⟩
   push_cast[]
   exact q _ s
  | non =>
   refine tup (t:=.type "NoneType") (λ_=>.inl .non) rfl λH' s=> ?_
   push_cast[↓SR,↓xF]
   exact q _ s
  | str z =>
   refine tup (t:=.type "str") (λ_=>.inl (.str z)) rfl λH' s=> ?_
   push_cast[↓SR,↓dB]
   refine HI (.inl (.str z)) (.ty _) (b:=true) rfl ?_
   push_cast[↓xG]
   refine HI (.inl (.str z)) (.ty _) (b:=true) rfl ?_
   push_cast[]
   exact q _ s
  | _=>exact h.elim
 ·cases e
  exact eG (b:=true) h1 h2 hl hg q
theorem Cd{n:Nat}(h:DY K a n vs H Q E):vs.length=2:=by
 obtain⟨_,_,rfl,_⟩:=h
 rfl
def TN(H:Hp)(c:Int)(z pl nl:Addr)(cnt i j:Nat)(k:Nat)(σ:St)(H':Hp):Prop:=(∃ ns:List Int,Same H H'/\H' pl=some (.tup [.int i,.int j])/\H' nl=some (.lst (ns.map V.int))/\ns.length=k/\∀ x∈ns,0<=x/\x<cnt)/\∃ z5 z6,σ=[some (.int c),some (.ref z),some (.int cnt),some (.ref pl),some (.ref nl),z5,z6]
theorem Cg(h:LX K a vs H Q E):SI K a (λ_=>E) (A7 Q) (A5 ["cell","size","count","place","needs","k","back"] vs) H:=by
 obtain⟨c,z,m,w,cnt,rfl,hz,hm,hw,hc,q⟩:=h
 have m0:(0:Int)<m:=by omega
 have w0:(0:Int)<w:=by omega
 have i0:=DP (c:=c) (p:=10067) m0
 have i1:=E4 (c:=c) (p:=10067) m0
 have j0:=DP (c:=c) (p:=10069) w0
 have j1:=E4 (c:=c) (p:=10069) w0
 push_cast[SI,↓vJ]
 refine BH hz (n:=0) rfl rfl ?_
 push_cast[↓DA]
 refine⟨m0,BH hz (n:=1) rfl rfl ?_⟩
 push_cast[↓DA]
 refine⟨w0,by decide,λp hp=> ?_⟩
 have main:∀ {H1:Hp} {pl:Addr} {i j:Nat},Same H H1->H1 pl=some (.tup [.int i,.int j])->i<m->j<w->AL (SF K a (λ_=>E) (λ_=>E)) (AL (SH K a (λ_=>E) (λ_=>E)) (N9 K a (λ_=>E) (λ_=>E))) (A7 Q) [some (.int c),some (.ref z),some (.int cnt),some (.ref pl),none,none,none] H1:=λ{H1 pl i j} s1 hpl hi hj=>by
  push_cast[↓vM]
  refine⟨by decide,λnl hnl=> ?_⟩
  have s2:=AX (o:=.lst []) hnl
  have en:upd H1 nl (.lst []) nl=some (.lst []):=AK
  have hnlH:H nl=none:=s1.free hnl
  revert s2 en
  generalize upd H1 nl (.lst [])=H2
  intro s2 en
  have s12:=s1.trans s2
  have epl:=s2 _ _ hpl
  push_cast[↓vR,↓DA]
  have q0:=DP (c:=c) (p:=10091) (m:=5) (by decide)
  have q1:=E4 (c:=c) (p:=10091) (m:=5) (by decide)
  generalize BX c 10091 5=pk at q0 q1
  obtain⟨num,enum,hnum⟩:∃ num:Nat,pk * (if(0:Int)<(cnt:Int)then 1 else 0)=num/\num<=4/\(num≠0->0<cnt):=by
   by_cases h:0<cnt
   ·exact⟨pk.toNat,by rw[if_pos (by omega)];omega,by omega,λ_=>h⟩
   ·exact⟨0,by rw[if_neg (by omega)];omega,by omega,λz=>absurd rfl z⟩
  refine⟨.inl ⟨by omega,by omega⟩,by rw[enum];omega,by rw[enum];omega,?_⟩
  rw[enum,Int.toNat_natCast]
  refine HH (TN H c z pl nl cnt i j) ⟨⟨[],s12,epl,en,rfl,by simp⟩,_,_,rfl⟩ (λk σ H' hk ⟨⟨ns,s3,epl3,en3,hn,hb⟩,z5,z6,ez⟩=> ?_) (λσ H' ⟨⟨ns,s3,epl3,en3,hn,hb⟩,z5,z6,ez⟩=> ?_)
  ·subst ez
   have hpos:=hnum.2 (by omega)
   have app:∀ {bk:Int},0<=bk->SG K a (λ_=>E) (λ_=>E) { nx:=TN H c z pl nl cnt i j (k+1),rt:=Q,bk:=N9 K a (λ_=>E) (λ_=>E) (A7 Q),ct:=TN H c z pl nl cnt i j (k+1) } [some (.int c),some (.ref z),some (.int cnt),some (.ref pl),some (.ref nl),some (.int k),some (.int bk)] H':=λ{bk} hbk=>by
    push_cast[↓vQ]
    refine⟨.inl ⟨rfl,_,SqL.of en3⟩,nl,_,_,rfl,rfl,en3,Nat.lt_of_lt_of_le (show(ns.map V.int).length<1000 by rw[List.length_map];omega) (by decide),⟨ns++[_],λy o e=>by rw[AI (AS e hnlH)];exact s3 _ _ e,by rw[AI (A3 epl3 en3 (by intro z;cases z))];exact epl3,by rw[AK,List.map_append];rfl,by simp[hn],λx hx=> ?_⟩,_,_,rfl⟩
    rcases List.mem_append.mp hx with h | h
    ·exact hb x h
    ·rw[List.mem_singleton.mp h]
     constructor<;>split<;>omega
   push_cast[↓vN,↓DA,Int.zero_add]
   have p3:=DP (c:=c+(k:Int)) (p:=10093) (m:=8) (by decide)
   push_cast[↓vP,↓DA]
   by_cases h4:BX (c+(k:Int)) 10099 4=0
   ·refine E6 h4 ?_
    push_cast[↓vO,↓DA]
    have p5:=DP (c:=c+(k:Int)) (p:=10103) (m:=cnt) (by omega)
    exact⟨by omega,app p5⟩
   ·exact C3 h4 (app p3)
  ·subst ez
   push_cast[↓vS]
   refine⟨c,rfl,λv H4 s4 gv=>⟨by decide,λt ht=> ?_⟩⟩
   have s5:=AX (o:=.tup [.ref pl,v,.ref nl]) ht
   exact q t pl nl i j v ns _ ((s3.trans s4).trans s5) AK (s5 _ _ (s4 _ _ epl3)) hi hj (gv.keep s5.tk) hnlH (s5 _ _ (s4 _ _ en3)) hb (by omega)
 push_cast[↓vL,↓DA]
 have s1:=AX (o:=.tup [.int (BX c 10067 m),.int (BX c 10069 w)]) hp
 obtain⟨i,ei⟩:∃ i:Nat,BX c 10067 m=i:=⟨(BX c 10067 m).toNat,by omega⟩
 obtain⟨j,ej⟩:∃ j:Nat,BX c 10069 w=j:=⟨(BX c 10069 w).toNat,by omega⟩
 rw[ei,ej]at s1 ⊢
 by_cases h3:BX c 10079 3=0
 ·refine E6 h3 ?_
  push_cast[↓vK]
  refine BH (s1 _ _ hz) (n:=0) rfl rfl ?_
  push_cast[↓DA]
  rw[ei]
  exact⟨m0,by decide,λp2 hp2=>main (j:=0) (s1.trans (AX hp2)) AK (by omega) hw⟩
 ·exact C3 h3 (main s1 AK (by omega) (by omega))
theorem Cj(h:LX K a vs H Q E):vs.length=3:=by
 obtain⟨_,_,_,_,_,rfl,_⟩:=h
 rfl
theorem Ck{H:Hp}{p:Addr}{ns:List Int}{x:Int}{Q:VK}(h:H p=some (.lst (ns.map V.int)))(hx:x∈ns)(q:Q (.bl false) H):PZ K (.int x) (.ref p) H Q:=by
 refine⟨p,_,rfl,.inl (SqL.of h),rfl,?_,?_⟩
 ·rw[List.all_eq_true]
  intro v hv
  obtain⟨i,_,rfl⟩:=List.mem_map.mp hv
  rfl
 ·have:MZ (.int x) (ns.map V.int)=true:=by
   unfold MZ
   rw[List.any_eq_true]
   exact⟨_,List.mem_map.mpr ⟨x,hx,rfl⟩,by simp[FR]⟩
  rw[if_pos rfl,this]
  exact q
theorem E7{A:BA}{w:Nat}{rows:List (List V)}{n:Nat}{cs:List Ch}{outs:Int->Bool}(B:AY a H A w rows n cs outs){x:Addr}(h:A.W x)(xs:List V):H x≠some (.tup xs):=by
 rcases h with h | h
 ·exact(B.loose h).1 xs
 ·obtain⟨dp,e⟩:=B.pk.ob
  rw[h,e]
  intro z;cases z
theorem HY{A:BA}{w:Nat}{rows:List (List V)}{n:Nat}{cs:List Ch}{outs:Int->Bool}(B:AY a H A w rows n cs outs){x:Addr}(h:H x=none):¬ A.W x:=by
 rintro (f | f)
 ·exact B.off h f
 ·obtain⟨dp,e⟩:=B.pk.ob
  rw[f,e]at h;cases h
theorem OwnL.sb{F G:Addr->Prop}{H':Hp}{L:Addr}{cs:List Ch}(h:OwnL F H L cs)(s:SameBut G H H')(g:∀ x,G x->F x)(nL:¬ G L)(tk:∀ x,G x->∀ xs,H x≠some (.tup xs)):OwnL F H' L cs:=by
 obtain⟨tl,e,p⟩:=h
 exact⟨tl,s _ _ e nL,Paired.mapP p λt c ⟨pl,nl,ns,h1,h2,h3,h4,h5⟩=>⟨pl,nl,ns,s _ _ h1 λz=>tk _ z _ h1,s _ _ h2 λz=>tk _ z _ h2,s _ _ h3 λz=>h4 (g _ z),h4,h5⟩⟩
theorem OC{α β :Type}{F: α -> β ->Prop}:∀ {l:List α} {m:List β} {i:Nat} {y: β},Paired F l m->m[i]? =some y->∃ x,l[i]? =some x/\F x y
 | _,_,_,_,.nil,e=>by simp at e
 | _,_,0,_,.cons h _,e=>by cases e;exact⟨_,rfl,h⟩
 | _,_,i+1,_,.cons _ r,e=>by simpa using OC r e
theorem Cl(h:HW K a vs H Q E):SN K a (λ_=>E) (A7 Q) (A5 ["hold","block","side","told","number","other"] vs) H:=by
 obtain⟨A,w,rows,n,cs,outs,b,sd,L,go,F,rfl,TT,B,hb,ct,hcs,S,hF,nsd,nL,ngo,nsg,nLg,q⟩:=h
 obtain⟨dx,hob⟩:=B.bk.ob
 push_cast[SN,↓wI]
 refine⟨_,_,hob,CO (by decide +kernel),A,w,rows,n,cs,outs,b,rfl,TT.1,TT.2.1,B,λb' row t ol hl H1 eb er hol hhl nol td B1 s1=> ?_,λz=>by omega⟩
 obtain rfl:b=b':=by omega
 obtain⟨⟨kvs,hd,kc,ko⟩,ow,⟨kvo,hg,hk,kk⟩⟩:=S
 have hd1:=s1 _ _ hd nsd
 have ow1:=ow.sb s1 (λx f=>hF x (.inl f)) nL (λx f=>E7 B f)
 have hg1:=s1 _ _ hg ngo
 have ct1:=YB ct b
 obtain⟨o1,o2,_⟩:=LL (cs:=cs) (outs:=outs) (b:=b)
 obtain⟨et,eo,_⟩:=td
 have eo:H1 ol=some (.lst (CC (outcome cs outs (λ_=>false) b).out)):=eo
 push_cast[↓wP]
 refine BH et (n:=0) rfl rfl ⟨ol,rfl,.inl ⟨⟨_,SqL.of eo⟩,GU (xs:=CC (outcome cs outs (λ_=>false) b).out) (λi σ H'=>H'=H1/\∃ y4 y5,σ=[some (.ref A.b),some (.int b),some (.ref sd),some (.ref t),y4,y5]) ⟨rfl,_,_,rfl⟩ (λi σ H' _ ⟨e,_⟩=>by rw[e];exact SqL.of eo) (λi v σ H' hx ⟨e,y4,y5,eσ⟩=> ?_) (λσ H' ⟨e,y4,y5,eσ⟩=> ?_)⟩⟩
 ·subst e;subst eσ
  unfold CC at hx
  rw[List.getElem?_map,Option.map_eq_some_iff]at hx
  obtain⟨k,hk',rfl⟩:=hx
  have km:=List.mem_of_getElem? hk'
  obtain⟨q1,q2⟩:=o2 k km
  have hkn:=IZ q2
  have ec:=List.getElem?_eq_getElem hkn
  revert ec
  generalize cs[k]=c
  intro ec
  push_cast[↓wK]
  refine⟨_,FG hd1 ko,go,rfl,_,dI hg1,?_⟩
  have hkk:(AZ kvo (.inl (k:Int))).isSome=outs k:=hk k
  rw[hkk,q1]
  refine C3 (by decide) ?_
  obtain⟨tl,hL1,own⟩:=ow1
  obtain⟨tt,ett,pl,nl,ns,h1,h2,h3,h4,h5,h6⟩:=OC own ec
  push_cast[↓wO]
  refine⟨_,FG hd1 kc,BD (SqL.of hL1) (n:=k) rfl (by rw[List.getElem?_map,ett];rfl) (BH h1 (n:=2) rfl rfl ⟨nl,rfl,.inl ⟨⟨_,SqL.of h3⟩,GU (xs:=ns.map V.int) (λj σ H2=>H2=H'/\∃ y5,σ=[some (.ref A.b),some (.int b),some (.ref sd),some (.ref t),some (.int k),y5]) ⟨rfl,_,rfl⟩ (λj σ H2 _ ⟨e,_⟩=>by rw[e];exact SqL.of h3) (λj v σ H2 hx ⟨e,y5,eσ⟩=> ?_) (λσ H2 ⟨e,y5,eσ⟩=> ?_)⟩⟩)⟩
  ·subst e;subst eσ
   rw[List.getElem?_map,Option.map_eq_some_iff]at hx
   obtain⟨x,hx',rfl⟩:=hx
   have xm:=h5 x (List.mem_of_getElem? hx')
   have xo:BU cs outs b x=true:=ct1 k c ec (QN.mpr (.inr km)) x xm
   have x0:=(B.bk.need k c ec).1 x xm
   push_cast[↓wN]
   refine⟨_,FG hd1 ko,go,rfl,_,dI hg1,?_⟩
   have hkx:(AZ kvo (.inl x)).isSome=outs x:=hk x
   rw[hkx]
   cases ox:outs x with
   | true =>
    refine C3 (by decide) ?_
    exact trivial
   | false =>
    refine E6 (by decide) (BH et (n:=0) rfl rfl ?_)
    have xin:x∈(outcome cs outs (λ_=>false) b).out.map λ(k:Nat)=>(k:Int):=by
     unfold BU at xo
     rw[ox,Bool.false_or]at xo
     obtain⟨k',hk2,e2⟩:=List.any_eq_true.mp xo
     exact List.mem_map.mpr ⟨k',hk2,(eq_of_beq e2).symm⟩
    rw[TF]at eo
    exact Ck eo xin ⟨false,rfl,C3 (by decide) rfl⟩
  ·subst e;subst eσ
   exact⟨rfl,_,_,rfl⟩
 ·subst e;subst eσ
  push_cast[↓wR]
  have ngo1:ol≠go:=λe=>by rw[e,hg]at hol;cases hol
  have tgo:t≠go:=A3 et hg1 (by intro z;cases z)
  refine BH et (n:=0) rfl rfl ⟨ol,rfl,.inl ⟨⟨_,SqL.of eo⟩,GU (xs:=CC (outcome cs outs (λ_=>false) b).out) (λi σ H2=>(∃ kv:List (AN × V),SameBut (· =go) H' H2/\H2 go=some (.dK kv)/\(∀ x:Int,B0 kv x=(outs x || ((outcome cs outs (λ_=>false) b).out.take i).any λ(k:Nat)=>x ==(k:Int)))/\KeysOk kv cs.length)/\∃ y4,σ=[some (.ref A.b),some (.int b),some (.ref sd),some (.ref t),y4,y5]) ⟨⟨kvo,SameBut.refl _,hg1,λx=>by rw[hk];simp,kk⟩,_,rfl⟩ (λi σ H2 _ ⟨⟨_,s,_⟩,_⟩=>SqL.of (s _ _ eo ngo1)) (λi v σ H2 hx ⟨⟨kv,s,e1,e2,e3⟩,y4,eσ⟩=> ?_) (λσ H2 ⟨⟨kv,s,e1,e2,e3⟩,y4,eσ⟩=> ?_)⟩⟩
  ·subst eσ
   unfold CC at hx
   rw[List.getElem?_map,Option.map_eq_some_iff]at hx
   obtain⟨k,hk',rfl⟩:=hx
   push_cast[↓wQ]
   have kl:=e3.len
   obtain⟨q1,q2⟩:=o2 k (List.mem_of_getElem? hk')
   have et':(outcome cs outs (λ_=>false) b).out.take (i+1)=(outcome cs outs (λ_=>false) b).out.take i++[k]:=by
    obtain⟨g1,g2⟩:=List.getElem?_eq_some_iff.mp hk'
    rw[<-g2,List.take_append_getElem]
   have hno:B0 kv k=false:=by
    rw[e2,q1,Bool.false_or]
    cases h:((outcome cs outs (λ_=>false) b).out.take i).any λ(k':Nat)=>(k:Int) ==(k':Int)with
    | false=>rfl
    | true =>
     exfalso
     obtain⟨y,hy,e⟩:=List.any_eq_true.mp h
     have e:k=y:=by have:=eq_of_beq e;omega
     obtain⟨g1,g2⟩:=List.getElem?_eq_some_iff.mp hk'
     have rise:=o1
     rw[<-List.take_append_drop i (outcome cs outs (λ_=>false) b).out,List.drop_eq_getElem_cons g1,g2]at rise
     have:=(List.pairwise_append.mp rise).2.2 y hy k (List.mem_cons_self ..)
     omega
   refine⟨_,FG (s _ _ hd1 nsg) ko,go,rfl,_,pI e1 (by omega),λy o e ny=>by rw[AI ny];exact s _ _ e ny,_,AK,λx=> ?_,e3.put (IZ q2) (by simpa [B0]using hno) _⟩
   rw[TK,e2,et',List.any_append]
   simp[Bool.or_assoc]
  ·subst eσ
   push_cast[↓wS]
   have lo:∀ x,x=go->CP (H' x):=λx hx=>hx ▸ JB hg1
   refine q row H2 er (B1.sb s lo λx hx f=>ngo (.inl (hx ▸ f))) ⟨⟨kvs,s _ _ hd1 nsg,kc,ko⟩,ow1.sb s (λx hx=>hF x (.inr hx)) nLg (λx hx=>(lo x hx).1),⟨kv,e1,λx=> ?_,e3⟩⟩ ((s1.wide λx f=>.inl f).trans (s.wide λx f=>.inr f))
   rw[e2]
   have:(CC (outcome cs outs (λ_=>false) b).out).length=(outcome cs outs (λ_=>false) b).out.length:=by simp[CC]
   rw[this,List.take_length]
   rfl
theorem Cm(h:HW K a vs H Q E):vs.length=3:=by
 obtain⟨_,_,_,_,_,_,_,_,_,_,_,rfl,_⟩:=h
 rfl
theorem eI{n:Nat}{outs:Int->Bool}(h:BI n outs=[])(k:Nat)(hk:k<n):outs k=true:=by
 cases o:outs k with
 | true=>rfl
 | false =>
  have:=TJ hk o
  rw[h]at this;cases this
theorem Cp{kvo:List (AN × V)}{n:Nat}(h:KeysOk kvo n)(a:∀ k:Nat,k<n->B0 kvo k=true):kvo.length=n:=by
 have h1:=h.len
 have h2:((List.range n).map λ(k:Nat)=>(Sum.inl (k:Int):AN)).length<=(kvo.map (·.1)).length:=by
  refine List.Nodup.length_le_of_subset ?_ λx hx=> ?_
  ·rw[List.nodup_iff_pairwise_ne,List.pairwise_map]
   refine List.pairwise_lt_range.imp λ{a b} h e=> ?_
   have:=Sum.inl.inj e
   omega
  ·obtain⟨k,hk,rfl⟩:=List.mem_map.mp hx
   have:=a k (List.mem_range.mp hk)
   unfold B0 at this
   rw[<-EV]at this
   obtain⟨p,hp,e⟩:=List.any_eq_true.mp this
   exact List.mem_map.mpr ⟨p,hp,by simpa using e⟩
 simp at h2
 omega
theorem Cq{r0 rows:List (List V)}{cs:List Ch}{O:Int->Bool}{b:Nat}{row:List V}(h:QR r0 cs rows)(er:rows[b]? =some row):QR r0 cs (rows.set b (DO cs O b row)):=by
 refine⟨by rw[List.length_set];exact h.1,λb' j hn=> ?_⟩
 rw[<-h.2 b' j hn]
 by_cases e:b'=b
 ·subst e
  have hb:=(List.getElem?_eq_some_iff.mp er).1
  rw[List.getElem?_set_self hb,er]
  show(DO cs O b' row)[j]? =row[j]?
  rw[LM,LN]
  cases el:EN cs ((BM cs b').filter λ(k:Nat)=>O k) j with
  | none=>simp
  | some c =>
   exfalso
   obtain⟨k,hk,ec,ecell,_⟩:=N1 el
   obtain⟨c',ec',eb⟩:=GY.mp (List.mem_filter.mp hk).1
   rw[ec]at ec'
   cases ec'
   obtain⟨j0,c0,hn0,_⟩:=X9 ec
   rw[eb,ecell,hn]at hn0
   cases hn0
 ·rw[List.getElem?_set_ne (λz=>e z.symm)]
theorem HoldOk.write{H':Hp}{r0 rows:List (List V)}{cs:List Ch}{outs:Int->Bool}{b:Nat}{row:List V}(h:HoldOk H r0 rows cs outs)(er:rows[b]? =some row):HoldOk H' r0 (rows.set b (DO cs (BU cs outs b) b row)) cs (BU cs outs b) :=
 ⟨YB h.ct b,tR er h.sh,Cq h.ba er⟩
theorem TQ{H':Hp}{kind m:Nat}{r0 rows:List (List V)}{cs:List Ch}{outs:Int->Bool}{t:Nat}(h:HoldOk H r0 rows cs outs)(hm:1<=m)(hr:rows.length=m)(inn:∀ c∈cs,c.blk<m):∀ i,HoldOk H' r0 (E5 kind m cs outs t rows i) cs (DG kind m cs outs t i)
 | 0=>⟨h.ct,h.sh,h.ba⟩
 | i+1=>by
  have ih:=TQ (H':=H') (kind:=kind) (t:=t) h hm hr inn i
  have dl:=eC (kind:=kind) (outs:=DG kind m cs outs t i) (t:=t+i) hm inn
  have hl:F7 kind m cs outs t i<(E5 kind m cs outs t rows i).length:=by rw[JR,hr];exact dl
  have er:=List.getElem?_eq_getElem hl
  show HoldOk H' r0 ((E5 kind m cs outs t rows i).set _ (DO _ _ _ ((E5 kind m cs outs t rows i).getD _ []))) cs _
  rw[List.getD_eq_getElem?_getD,er]
  exact ih.write er
structure Cv(a:Ad)(H:Hp)(A:BA)(w:Nat)(r0 rows:List (List V))(cs:List Ch)(t:Nat)(sd L go:Addr)(F:Addr->Prop)(k:Nat)(rows':List (List V))(n':Nat)(outs':Int->Bool)(H':Hp):Prop where
 b:AY a H' A w rows' n' cs outs'
 h:HoldOk H' r0 rows' cs outs'
 s:SideAt F H' sd L go cs outs'
 sb:SameBut (λx=>A.W x\/x=go) H H'
 l:rows'.length=rows.length
 mu:DQ 2 rows.length cs outs' (t+k)+k<=cs.length * rows.length+rows.length
theorem eJ{p e0:Addr}{l:List Nat}(h1:H p=some (.lst (CC l)))(h2:H e0=some (.lst []))(q:Q (.bl (decide (l=[]))) H):CG K (.ref p) (.ref e0) H Q:=by
 refine sP (n:=1) (by decide) (SqL.of h1) (by rw[TF];exact P4 _) (SqL.of h2) ?_
 have:decide (CC l=[])=decide (l=[]):=by
  unfold CC
  rw[decide_eq_decide,List.map_eq_nil_iff]
 rw[this]
 exact q
theorem SideAt.same{F:Addr->Prop}{H':Hp}{sd L go:Addr}{cs:List Ch}{outs:Int->Bool}(h:SideAt F H sd L go cs outs)(s:Same H H'):SideAt F H' sd L go cs outs:=by
 obtain⟨⟨kvs,hd,kc,ko⟩,ow,⟨kvo,hg,r⟩⟩:=h
 exact⟨⟨kvs,s _ _ hd,kc,ko⟩,ow.sb (G:=λ_=>False) s.sb (λ_ z=>z.elim) (λz=>z) (λ_ z=>z.elim),⟨kvo,s _ _ hg,r⟩⟩
theorem Cw(h:LZ K a vs H Q E):SO K a (λ_=>E) (A7 Q) (A5 ["hold","side","turn","blocks","k"] vs) H:=by
 obtain⟨A,w,r0,rows,n,cs,outs,t,sd,L,go,F,rfl,TT,B,ho,hcs,S,hF,nsd,nL,ngo,nsg,nLg,hr,hr',q⟩:=h
 have inn:∀ c∈cs,c.blk<rows.length:=λc hc=>by rw[<-B.nb];exact(B.bk.inn c hc).1
 have need:OA cs:=λk c e=>(B.bk.need k c e).1
 have S0:=S
 obtain⟨⟨kvs,hd,kc,ko⟩,⟨tl,hL,own⟩,_⟩:=S
 have nm:rows.length * (1+cs.length)=cs.length * rows.length+rows.length:=by rw[Nat.mul_add,Nat.mul_one,Nat.mul_comm,Nat.add_comm]
 have nb:cs.length * rows.length<=90 * 8:=Nat.mul_le_mul hcs hr'
 push_cast[SO,↓wX]
 refine⟨_,FG hd kc,cs.length,.inl ⟨_,SqL.of hL,by rw[List.length_map,own.length]⟩,?_⟩
 have ni:(rows.length:Int) * (1+(cs.length:Int))=((rows.length * (1+cs.length):Nat):Int):=by simp
 refine⟨.inl ⟨by omega,by omega⟩,by rw[ni,nm];omega,by rw[ni,nm];omega,?_⟩
 rw[ni,Int.toNat_natCast]
 refine HH (λk σ H'=>(∃ rows' n' outs',Cv a H A w r0 rows cs t sd L go F k rows' n' outs' H')/\∃ y,σ=[some (.ref A.b),some (.ref sd),some (.int t),some (.int rows.length),y]) ⟨⟨rows,n,outs,B,ho,S0,SameBut.refl _,rfl,by have:=eB (kind:=2) (outs:=outs) (t:=t+0) hr inn;omega⟩,_,rfl⟩ (λk σ H1 hk ⟨⟨rows1,n1,outs1,I⟩,y,eσ⟩=> ?_) (λσ H1 ⟨⟨rows1,n1,outs1,I⟩,y,eσ⟩=> ?_)
 ·subst eσ
  obtain⟨dx,hob⟩:=I.b.bk.ob
  push_cast[↓wU]
  refine⟨_,_,hob,CO (by decide +kernel),A,w,rows1,n1,cs,outs1,rfl,TT.1,I.b,λwl H2 hwl s2 ewl=>⟨by decide,λe0 he0=> ?_⟩⟩
  have s3:=AX (o:=.lst []) he0
  have ee0:upd H2 e0 (.lst []) e0=some (.lst []):=AK
  revert s3 ee0
  generalize upd H2 e0 (.lst [])=H3
  intro s3 ee0
  have s13:=s2.trans s3
  have B3:=I.b.same s13
  have S3:=I.s.same s13
  refine eJ (s3 _ _ ewl) ee0 ?_
  push_cast[]
  by_cases hw:BI cs.length outs1=[]
  ·refine E6 hw ?_
   have S3':=S3
   obtain⟨⟨kv3,hd3,kc3,ko3⟩,⟨tl3,hL3,own3⟩,⟨kvo,hg3,hk3,kk3⟩⟩:=S3'
   push_cast[↓wT]
   have kn:=Cp kk3 λk hk=>by rw[hk3];exact eI hw k hk
   refine⟨_,FG hd3 ko3,go,kvo,rfl,hg3,_,FG hd3 kc3,cs.length,.inl ⟨_,SqL.of hL3,by rw[List.length_map,own3.length]⟩,?_⟩
   rw[kn]
   push_cast[]
   have e:decide ((cs.length:Int)=(cs.length:Int))=true:=by simp
   first | rw[e] | skip
   exact q rows1 n1 outs1 H3 B3 ⟨I.h.ct,I.h.sh,I.h.ba⟩ hw (I.sb.trans s13.sb)
  ·refine C3 hw ?_
   push_cast[↓wW,Int.zero_add]
   have dl:(t+k) % rows.length<rows.length:=Nat.mod_lt _ (by omega)
   have ed:((t:Int)+(k:Int)) % (rows.length:Int)=(((t+k) % rows.length:Nat):Int):=by simp
   rw[ed]
   refine⟨by omega,A,w,rows1,n1,cs,outs1,(t+k) % rows.length,sd,L,go,F,rfl,TT,B3,by rw[I.l];exact dl,I.h.ct,hcs,S3,hF,nsd,nL,ngo,nsg,nLg,λrow H4 er B4 S4 s4=>⟨true,rfl,C3 (by decide) ?_⟩⟩
   have mu:=TM (kind:=2) (t:=t+k) hr inn need hw
   have mu1:=I.mu
   refine⟨_,_,_,B4,I.h.write er,S4,(I.sb.trans s13.sb).trans s4,by rw[List.length_set];exact I.l,?_⟩
   have mu:DQ 2 rows.length cs (BU cs outs1 ((t+k) % rows.length)) (t+k+1)<DQ 2 rows.length cs outs1 (t+k):=mu
   show DQ 2 rows.length cs (BU cs outs1 ((t+k) % rows.length)) (t+k+1)+(k+1)<=_
   omega
 ·subst eσ
  have hw:BI cs.length outs1=[]:=by
   have:=I.mu
   unfold DQ at this
   rw[if_neg (by omega)]at this
   cases e:BI cs.length outs1 with
   | nil=>rfl
   | cons x r =>
    rw[e]at this
    have h1:=Nat.le_mul_of_pos_left rows.length (show 0<(x::r).length by simp)
    omega
  obtain⟨dx,hob⟩:=I.b.bk.ob
  push_cast[↓wY]
  refine⟨_,_,hob,CO (by decide +kernel),A,w,rows1,n1,cs,outs1,rfl,TT.1,I.b,λwl H2 hwl s2 ewl=>⟨by decide,λe0 he0=> ?_⟩⟩
  have s3:=AX (o:=.lst []) he0
  refine eJ (s3 _ _ ewl) AK ?_
  rw[decide_eq_true hw]
  have s13:=s2.trans s3
  exact q rows1 n1 outs1 _ (I.b.same s13) ⟨I.h.ct,I.h.sh,I.h.ba⟩ hw (I.sb.trans s13.sb)
theorem Cy(h:LZ K a vs H Q E):vs.length=4:=by
 obtain⟨_,_,_,_,_,_,_,_,_,_,_,_,rfl,_⟩:=h
 rfl
theorem eK{n b:Nat}(h:b<n):ES n (b:Int)=some b:=by
 unfold ES
 rw[if_pos (by omega),if_pos (by omega),Int.toNat_natCast]
theorem FJ{α β :Type}{F: α -> β ->Prop}:∀ {l:List α} {m:List β} {i:Nat} {x: α},Paired F l m->l[i]? =some x->∃ y,m[i]? =some y/\F x y
 | _,_,_,_,.nil,h=>by simp at h
 | _,_,0,_,.cons h _,e=>by cases e;exact⟨_,rfl,h⟩
 | _,_,i+1,_,.cons _ r,e=>by
  obtain⟨y,h1,h2⟩:=FJ (i:=i) r (by simpa using e)
  exact⟨y,by simpa using h1,h2⟩
theorem HZ{α β :Type}{P P': α -> β ->Prop}:∀ {l:List α} {m:List β},Paired P l m->(∀ x y,x∈l->P x y->P' x y)->Paired P' l m
 | _,_,.nil,_=>.nil
 | _,_,.cons x r,h=>.cons (h _ _ List.mem_cons_self x) (HZ r λo t hm=>h o t (List.mem_cons_of_mem _ hm))
def BG(a:Ad)(H:Hp)(p cl R z:Addr)(m w k:Nat)(H':Hp):Prop:=Same H H'/\H' z=some (.tup [.int m,.int w])/\∃ (rows:List (List V)) (ra:List Addr),rows.length=m/\PlankAt a H' p cl w rows k/\GA H' R ra rows/\good7 H' rows/\∀ x∈ra,x≠cl/\x≠p/\H x=none
theorem Cz{ra:List Addr}{b:Nat}{l:Addr}(nd:ra.Nodup)(nl:l∉ra):(ra.set b l).Nodup:=by
 rw[List.nodup_iff_pairwise_ne]at *
 induction ra generalizing b with
 | nil=>simpa using nd
 | cons x r ih =>
  obtain⟨h1,h2⟩:=List.pairwise_cons.mp nd
  have n1:l≠x:=λe=>nl (e ▸ List.mem_cons_self)
  have n2:l∉r:=λe=>nl (List.mem_cons_of_mem _ e)
  cases b with
  | zero=>exact List.pairwise_cons.mpr ⟨λy hy e=>n2 (e ▸ hy),h2⟩
  | succ b =>
   refine List.pairwise_cons.mpr ⟨λy hy=> ?_,ih h2 n2⟩
   rcases List.mem_or_eq_of_mem_set hy with hy | hy
   ·exact h1 y hy
   ·exact λe=>n1 (by rw[e,hy])
theorem Db(h:JK K a vs H Q E):SE K a (λ_=>E) (A7 Q) (A5 ["cell","size","plank","rows","k","block"] vs) H:=by
 obtain⟨c,z,m,w,rfl,TP,ez,hm1,hm2,hw1,hw2,q⟩:=h
 push_cast[SE,↓vC]
 refine BH ez (n:=0) rfl rfl (BH ez (n:=1) rfl rfl ?_)
 refine zU (m0:=m) (w:=w) TP (by omega) hw1 (by omega) λp cl H2 hp hcl P2 s2=> ?_
 push_cast[↓vD]
 refine BH (s2 _ _ ez) (n:=0) rfl rfl ?_
 push_cast[]
 refine⟨by omega,by omega,?_⟩
 refine LF (GW m (by omega)) (λi ys H'=>Same H2 H'/\∃ rs:List Addr,ys=rs.map V.ref/\rs.Nodup/\Paired (λl r=>H' l=some (.lst r)/\H2 l=none) rs (List.replicate i (List.replicate w .non))) ⟨Same.refl _,[],rfl,List.nodup_nil,.nil⟩ (λi ys H' hi hli ⟨s3,rs,e,nd,P⟩=> ?_) (λys H3 hli ⟨s3,rs,e,nd,Pr⟩ R hR=> ?_)
 ·push_cast[FZ]
  refine BH (s3 _ _ (s2 _ _ ez)) (n:=1) rfl rfl ?_
  push_cast[]
  refine⟨by omega,by omega,pV (GW w (by omega)) (λ_=>V.non) (λj hj Q' q'=>q') λu hu=> ?_⟩
  have er:(List.range w).map (λ_=>V.non)=List.replicate w V.non:=by
   rw[List.map_const',List.length_range]
  rw[er]
  have su:=AX (o:=.lst (List.replicate w V.non)) hu
  refine⟨s3.trans su,rs++[u],by rw[e,List.map_append];rfl,?_,?_⟩
  ·rw[List.nodup_append]
   refine⟨nd,by simp,λx hx y hy=> ?_⟩
   rw[List.mem_singleton.mp hy]
   obtain⟨k,ek⟩:=EM hx
   obtain⟨r',_,hx'⟩:=FJ P ek
   exact AS hx'.1 hu
  ·rw[List.replicate_succ']
   exact Paired.snoc (Paired.mapP P λt r z=>⟨su _ _ z.1,z.2⟩) ⟨AK,s3.free hu⟩
 subst e
 have sR:=AX (o:=.lst (rs.map V.ref)) hR
 obtain⟨ts,ecl,_⟩:=P2.ls
 obtain⟨dp,ep⟩:=P2.ob
 have npc:p≠cl:=P2.ne
 have nRc:R≠cl:=(AS (s3 _ _ ecl) hR).symm
 have nRp:R≠p:=(AS (s3 _ _ ep) hR).symm
 have hR1:H R=none:=(s2.trans s3).free hR
 have b0:BG a H p cl R z m w 0 (upd H3 R (.lst (rs.map V.ref))):=by
  refine⟨(s2.trans s3).trans sR,sR _ _ (s3 _ _ (s2 _ _ ez)),_,rs,List.length_replicate,(P2.same s3).same sR,⟨AK,Paired.mapP Pr λl r' z=>sR _ _ z.1,nd,λhm=> ?_⟩,λr' hr' v hv=> ?_,λx hx=> ?_⟩
  ·obtain⟨k,ek⟩:=EM hm
   obtain⟨r',_,hx'⟩:=FJ Pr ek
   rw[hR]at hx'
   cases hx'.1
  ·rw[List.eq_of_mem_replicate hr']at hv
   rw[List.eq_of_mem_replicate hv]
   trivial
  ·obtain⟨k,ek⟩:=EM hx
   obtain⟨r',_,hx'⟩:=FJ Pr ek
   exact⟨λe=>(by rw[e,ecl]at hx';cases hx'.2),λe=>(by rw[e,ep]at hx';cases hx'.2),s2.free hx'.2⟩
 revert b0
 generalize upd H3 R (.lst (rs.map V.ref))=H4
 intro b0
 clear sR
 push_cast[↓vH,↓DA]
 have q0:=DP (c:=c) (p:=10039) (m:=3) (by decide)
 have q1:=E4 (c:=c) (p:=10039) (m:=3) (by decide)
 refine⟨by omega,by omega,?_⟩
 refine HH (λi σ H'=>BG a H p cl R z m w i H'/\∃ y y',σ=[some (.int c),some (.ref z),some (.ref p),some (.ref R),y,y']) ⟨b0,_,_,rfl⟩ (λi σ H5 hi ⟨b,y,y',eσ⟩=> ?_) (λσ H5 ⟨b,y,y',eσ⟩=> ?_)
 ·subst eσ
  obtain⟨s5,hz5,rows,ra,hl5,P5,⟨hR5,hra5,nd5,nR5⟩,g5,nra5⟩:=b
  push_cast[↓vE,Int.zero_add]
  refine BH hz5 (n:=0) rfl rfl ?_
  push_cast[↓DA]
  have m0:(0:Int)<m:=by omega
  have b0':=DP (c:=c+(i:Int)) (p:=10061) m0
  have b1':=E4 (c:=c+(i:Int)) (p:=10061) m0
  obtain⟨b,eb⟩:∃ b:Nat,BX (c+(i:Int)) 10061 m=b:=⟨(BX (c+(i:Int)) 10061 m).toNat,by omega⟩
  rw[eb]
  have hb:b<m:=by omega
  refine⟨m0,?_⟩
  push_cast[↓vF]
  refine BH hz5 (n:=1) rfl rfl ?_
  push_cast[]
  refine⟨by omega,by omega,?_⟩
  refine LF (GW w (by omega)) (λi ys H'=>Same H5 H'/\∀ v∈ys,GoodV 7 H' v) ⟨Same.refl _,by simp⟩ (λj ys H' hj _ ⟨s,gy⟩=> ?_) (λys H6 hlen6 ⟨s6,gy⟩ l hl6=> ?_)
  ·push_cast[FZ,Option.join_some,Int.zero_add]
   refine⟨.inl ⟨by omega,by omega⟩,_,rfl,λv H2 s2 gv=>⟨s.trans s2,λu hu=> ?_⟩⟩
   rcases List.mem_append.mp hu with hu | hu
   ·exact(gy u hu).keep s2.tk
   ·rw[List.mem_singleton.mp hu];exact gv
  have sl:=AX (o:=.lst ys) hl6
  have el:upd H6 l (.lst ys) l=some (.lst ys):=AK
  have s07:=(s5.trans s6).trans sl
  have gy7:∀ v∈ys,GoodV 7 (upd H6 l (.lst ys)) v:=λv hv=>(gy v hv).keep sl.tk
  have fl:H l=none:=(s5.trans s6).free hl6
  have nlR:l≠R:=λe=>by rw[e,s6 _ _ hR5]at hl6;cases hl6
  have nlra:l∉ra:=λe=>by
   obtain⟨k,ek⟩:=EM e
   obtain⟨r',_,hx'⟩:=FJ hra5 ek
   rw[s6 _ _ hx']at hl6;cases hl6
  have s57:=s6.trans sl
  have P7:=P5.same s57
  revert sl el s07 gy7 s57 P7
  generalize upd H6 l (.lst ys)=H7
  intro sl el s07 gy7 s57 P7
  clear sl
  obtain⟨ts7,ec7,_⟩:=P7.ls
  obtain⟨dp7,ep7⟩:=P7.ob
  have hra7:=Paired.mapP hra5 λx r (e:H5 x=some (.lst r))=>s57 _ _ e
  have hral:ra.length=m:=by rw[hra5.length,hl5]
  refine⟨R,_,_,b,rfl,rfl,s57 _ _ hR5,eK (by rw[List.length_map,hral];exact hb),?_⟩
  have eset:(ra.map V.ref).set b (V.ref l)=(ra.set b l).map V.ref:=by rw[List.map_set]
  rw[eset]
  have s8:SameBut (· =R) H7 (upd H7 R (.lst ((ra.set b l).map V.ref))):=λy o e n=>by rw[AI n];exact e
  have R8:upd H7 R (.lst ((ra.set b l).map V.ref)) R=some (.lst ((ra.set b l).map V.ref)):=AK
  revert s8 R8
  generalize upd H7 R (.lst ((ra.set b l).map V.ref))=H8
  intro s8 R8
  have l8:=s8 _ _ el nlR
  have P8:PlankAt a H8 p cl w rows i:=P7.sbL s8 (λx hx=>hx ▸ E3 (s57 _ _ hR5)) nRc.symm
  have ep8:=s8 _ _ ep7 nRp.symm
  push_cast[↓vG]
  refine⟨_,_,ep8,d9 _ _ _,BD (SqL.of R8) (n:=b) rfl (by rw[List.getElem?_map,List.getElem?_set_self (by omega)];rfl) ?_⟩
  push_cast[]
  refine⟨_,.inl (SqL.of l8),λl2 hl2=> ?_⟩
  have s9:=AX (o:=.lst ys) hl2
  have el2:upd H8 l2 (.lst ys) l2=some (.lst ys):=AK
  revert s9 el2
  generalize upd H8 l2 (.lst ys)=H9
  intro s9 el2
  refine⟨p,cl,w,rows,i,(b:Int),l2,ys,rfl,TP,P8.same s9,SqL.of el2,by omega,λb' eb' hb' hyl Ha Pa sa=> ?_,λz=>by omega⟩
  obtain rfl:b=b':=by omega
  have k9:∀ {y:Addr} {o:HO},H7 y=some o->y≠R->y≠p->y≠cl->Ha y=some o:=λe n1 n2 n3=>sa _ _ (s9 _ _ (s8 _ _ e n1)) λz=>z.elim n2 n3
  have tk:FI H7 Ha:=λy xs e=>k9 e (A3 e (s57 _ _ hR5) (by intro z;cases z)) (A3 e ep7 (by intro z;cases z)) (A3 e ec7 (by intro z;cases z))
  have nlp:l≠p:=A3 el ep7 (by intro z;cases z)
  obtain⟨ts5,ec5,_⟩:=P5.ls
  have nlc:l≠cl:=λe=>by rw[e,s6 _ _ ec5]at hl6;cases hl6
  refine⟨λy o e=>k9 (s07 _ _ e) (AS e hR1) (AS e hp) (AS e hcl),tk _ _ (s57 _ _ hz5),rows.set b ys,ra.set b l,by rw[List.length_set];exact hl5,Pa,⟨sa _ _ (s9 _ _ R8) λz=>z.elim nRp nRc,?_,Cz nd5 nlra,λhm=> ?_⟩,λr' hr' v hv=> ?_,λx hx=> ?_⟩
  ·exact PH (F:=λl r=>Ha l=some (.lst r)) (k9 el nlR nlp nlc) b (HZ hra7 λx r hx e=>k9 e (λz=>nR5 (z ▸ hx)) (nra5 x hx).2.1 (nra5 x hx).1)
  ·rcases List.mem_or_eq_of_mem_set hm with hm | hm
   ·exact nR5 hm
   ·exact nlR hm.symm
  ·rcases List.mem_or_eq_of_mem_set hr' with z | z
   ·exact((g5 r' z v hv).keep s57.tk).keep tk
   ·subst z
    exact(gy7 v hv).keep tk
  ·rcases List.mem_or_eq_of_mem_set hx with z | z
   ·exact nra5 x z
   ·rw[z];exact⟨nlc,nlp,fl⟩
 ·subst eσ
  obtain⟨s5,hz5,rows,ra,hl5,P5,⟨hR5,hra5,nd5,nR5⟩,g5,nra5⟩:=b
  push_cast[↓vI]
  refine⟨by decide,λt ht=> ?_⟩
  have s6:=AX (o:=.tup [.ref p,.ref R]) ht
  refine q t p cl R ra rows _ _ (s5.trans s6) AK (P5.same s6) ⟨s6 _ _ hR5,Paired.mapP hra5 λx r e=>s6 _ _ e,nd5,nR5⟩ (g5.keep s6.tk) hl5 (by omega) hp hcl hR1 (λx hx=>⟨(nra5 x hx).2.2,(nra5 x hx).1⟩) nRc
theorem Dc(h:JK K a vs H Q E):vs.length=2:=by
 obtain⟨_,_,_,_,rfl,_⟩:=h
 rfl
theorem Dd{κ :Type}[DecidableEq κ]{kvs:List (κ × V)}{k: κ}{v:V}{p: κ × V}(h:p∈BT kvs k v):p.1=k\/∃ p'∈kvs,p'.1=p.1:=by
 unfold BT at h
 split at h
 ·obtain⟨p',hp,e⟩:=List.mem_map.mp h
  refine .inr ⟨p',hp,?_⟩
  subst e
  split<;>rfl
 ·rcases List.mem_append.mp h with h | h
  ·exact .inr ⟨p,h,rfl⟩
  ·rw[List.mem_singleton.mp h];exact .inl rfl
theorem Dg{A:BA}{w:Nat}{rows:List (List V)}{n:Nat}{cs:List Ch}{outs:Int->Bool}(B:AY a H A w rows n cs outs):outs cs.length=false:=by
 obtain⟨kvo,_,h2,h3,h4⟩:=B.bk.out
 cases e:outs cs.length with
 | false=>rfl
 | true =>
  exfalso
  have:=h2 cs.length
  rw[e,<-EV]at this
  obtain⟨p,hp,e⟩:=List.any_eq_true.mp this
  obtain⟨x,e2,hx⟩:=h4 p hp
  have:p.1=Sum.inl (cs.length:Int):=by simpa using e
  rw[e2]at this
  have:=Sum.inl.inj this
  omega
theorem BookAt.apart{H':Hp}{A A':BA}{w w':Nat}{rows rows':List (List V)}{n n':Nat}{cs cs':List Ch}{outs outs':Int->Bool}(B:AY a H A w rows n cs outs)(B':AY a H A' w' rows' n' cs' outs')(d:∀ x,A.W x->¬ A'.W x)(s:SameBut A'.W H H'):AY a H' A w rows n cs outs:=by
 have tp:∀ {x:Addr} {xs:List V},H x=some (.tup xs)->H' x=some (.tup xs):=λe=>s _ _ e λf=>E7 B' f _ e
 obtain⟨dp',p'⟩:=B'.pk.ob
 have ins:∀ {x C dx:Addr} {fs:List (Str × V)},H x=some (.ins C dx fs)->(∀ cl w n,fs≠pf cl w n)->H' x=some (.ins C dx fs):=λe ne=>s _ _ e λf=>by
  rcases f with f | f
  ·exact(B'.loose f).2 _ _ _ e
  ·rw[f,p']at e
   cases e
   exact ne _ _ _ rfl
 obtain⟨⟨⟨dx,e1⟩,⟨chs,e2,e3⟩,e4,e5,e6,⟨kvs,e7,e8⟩,⟨kvo,e9,e10⟩,r1,r2,r3,r4,r5⟩,⟨⟨dp,p1⟩,⟨ts,p2,p3⟩,p4,p5,p6⟩,nb⟩:=B
 refine⟨⟨⟨dx,ins e1 λ_ _ _ z=>by simp[bf,pf]at z⟩,⟨chs,s _ _ e2 (d _ (.inl (.inl rfl))),Paired.mapP e3 λx c h=> ?_⟩,s _ _ e4 (d _ (.inl (.inr (.inl rfl)))),λi l h=>s _ _ (e5 i l h) (d _ (.inl (.inr (.inr (.inl (List.mem_of_getElem? h)))))),e6,⟨kvs,s _ _ e7 (d _ (.inl (.inr (.inr (.inr (.inl rfl)))))),e8⟩,⟨kvo,s _ _ e9 (d _ (.inl (.inr (.inr (.inr (.inr (.inl rfl))))))),e10⟩,r1,r2,r3,r4,r5⟩,
  ⟨⟨dp,s _ _ p1 (d _ (.inr rfl))⟩,⟨ts,s _ _ p2 (d _ (.inl (.inr (.inr (.inr (.inr (.inr rfl))))))),Paired.mapP p3 λt r e=>tp e⟩,p4,p5,p6⟩,nb⟩
 obtain⟨dx,pl,nt,c1,c2,c3⟩:=h
 exact⟨dx,pl,nt,ins c1 λ_ _ _ z=>by
  have:("place":Str)="contents":=congrArg Prod.fst (List.cons.inj z).1
  revert this
  decide +kernel,tp c2,tp c3⟩
theorem BookAt.far{H':Hp}{A A':BA}{w w':Nat}{rows rows':List (List V)}{n n':Nat}{cs cs':List Ch}{outs outs':Int->Bool}{P:Addr->Prop}(B:AY a H A w rows n cs outs)(B':AY a H A' w' rows' n' cs' outs')(d:∀ x,A.W x->¬ A'.W x)(lo:∀ x,P x->CP (H x))(np:∀ x,P x->¬ A.W x)(s:SameBut (λx=>A'.W x\/P x) H H'):AY a H' A w rows n cs outs:=by
 classical
 have st:SameBut A'.W H (λx=>if P x then H x else H' x):=λy o e ny=>by
  by_cases z:P y
  ·simp only[z,if_true];exact e
  ·simp only[z,if_false];exact s _ _ e λf=>f.elim ny z
 exact(B.apart B' d st).sb (G:=P) (λy o e ny=>by simpa [ny]using e) (λx hx=>by simpa [hx]using lo x hx) λx hx f=>np x hx (.inl f)
theorem SideAt.sb{F G:Addr->Prop}{H':Hp}{sd L go:Addr}{cs:List Ch}{outs:Int->Bool}(h:SideAt F H sd L go cs outs)(s:SameBut G H H')(g:∀ x,G x->F x)(n1:¬ G sd)(n2:¬ G L)(n3:¬ G go)(tk:∀ x,G x->∀ xs,H x≠some (.tup xs)):SideAt F H' sd L go cs outs:=by
 obtain⟨⟨kvs,hd,kc,ko⟩,ow,⟨kvo,hg,r⟩⟩:=h
 exact⟨⟨kvs,s _ _ hd n1,kc,ko⟩,ow.sb s g n2 tk,⟨kvo,s _ _ hg n3,r⟩⟩
structure Half(a:Ad)(F:Addr->Prop)(H:Hp)(A:BA)(sd L go:Addr)(w:Nat)(r0 rows:List (List V))(n:Nat)(cs:List Ch)(outs:Int->Bool):Prop where
 b:AY a H A w rows n cs outs
 s:SideAt F H sd L go cs outs
 h:HoldOk H r0 rows cs outs
theorem Half.far{F P:Addr->Prop}{H':Hp}{A A':BA}{sd L go:Addr}{w w':Nat}{r0 rows rows':List (List V)}{n n':Nat}{cs cs':List Ch}{outs outs':Int->Bool}(X:Half a F H A sd L go w r0 rows n cs outs)(B':AY a H A' w' rows' n' cs' outs')(d:∀ x,A.W x->¬ A'.W x)(lo:∀ x,P x->CP (H x))(np:∀ x,P x->¬ A.W x)(s:SameBut (λx=>A'.W x\/P x) H H')(g:∀ x,A'.W x\/P x->F x)(n1:¬ (A'.W sd\/P sd))(n2:¬ (A'.W L\/P L))(n3:¬ (A'.W go\/P go)):Half a F H' A sd L go w r0 rows n cs outs :=
 ⟨X.b.far B' d lo np s,X.s.sb s g n1 n2 n3 (λx f=>f.elim (λf=>E7 B' f) λf=>(lo x f).1),⟨X.h.ct,X.h.sh,X.h.ba⟩⟩
theorem Half.same{F:Addr->Prop}{H':Hp}{A:BA}{sd L go:Addr}{w:Nat}{r0 rows:List (List V)}{n:Nat}{cs:List Ch}{outs:Int->Bool}(X:Half a F H A sd L go w r0 rows n cs outs)(s:Same H H'):Half a F H' A sd L go w r0 rows n cs outs :=
 ⟨X.b.same s,X.s.same s,⟨X.h.ct,X.h.sh,X.h.ba⟩⟩
theorem HoldOk.snoc{H':Hp}{r0 rows:List (List V)}{cs:List Ch}{outs:Int->Bool}{c:Ch}(h:HoldOk H r0 rows cs outs)(ho:outs cs.length=false):HoldOk H' r0 rows (cs++[c]) outs:=by
 refine⟨tS h.ct ho,tT h.sh ho,h.ba.1,λb j hn=>h.ba.2 b j ?_⟩
 rw[NV]at hn
 split at hn
 ·cases hn
 ·exact hn
section
variable{hl sl z pd t pl nl sd L go:Addr}{c:Int}{k i j:Nat}{v:V}{ns:List Int}{xs ys:List V}{y7:Option V}{F:Addr->Prop}{A:BA}{w:Nat}{r0 rows:List (List V)}{n:Nat}{cs:List Ch}{outs:Int->Bool}{D:Ends}
theorem eM(TT:D8 K a)(X:Half a F H A sd L go w r0 rows n cs outs)(hc:cs.length<80)(hhl:H hl=some (.lst xs))(hsl:H sl=some (.lst ys))(ek:xs[k]? =some (.ref A.b))(es:ys[k]? =some (.ref sd))(ht:H t=some (.tup [.ref pl,v,.ref nl]))(hpl:H pl=some (.tup [.int i,.int j]))(hnl:H nl=some (.lst (ns.map V.int)))(hi:i<rows.length)(hj:j<w)(hns:∀ x∈ns,0<=x/\x<cs.length)(hn4:ns.length<=4)(nnl:¬ F nl)(fF:∀ x,A.W x\/x=L->F x)(nhl:¬ F hl)(nsl:¬ F sl)(nsd:¬ F sd)(nL:¬ A.W L)(ngo:¬ A.W go)(nLg:go≠L)
  (q:∀ (nd:List Int) (H':Hp),nd.Pairwise (· <·)->(∀ x,x∈nd↔x∈ns\/∃ k:Nat,CA cs i j=some k/\x=k)->Half a F H' A sd L go w r0 rows n (cs++[⟨i,j,v,nd⟩]) outs->SameBut (λx=>A.W x\/x=L) H H'->D.nx [some (.ref hl),some (.ref sl),some (.int c),some (.ref z),some (.ref pd),some (.ref t),some (.int k),y7] H') :
  AL (SU K a (λ_=>E) (λ_=>E)) (SV K a (λ_=>E) (λ_=>E)) D [some (.ref hl),some (.ref sl),some (.int c),some (.ref z),some (.ref pd),some (.ref t),some (.int k),y7] H:=by
 obtain⟨dx,hob⟩:=X.b.bk.ob
 push_cast[↓xK]
 refine BD (SqL.of hhl) (n:=k) rfl ek ⟨A.b,rfl,_,_,hob,CO (by decide +kernel),BH ht (n:=0) rfl rfl (BH ht (n:=1) rfl rfl (BH ht (n:=2) rfl rfl ?_))⟩
 push_cast[]
 refine⟨_,.inl (SqL.of hnl),λh hh=> ?_⟩
 have s1:=AX (o:=.lst (ns.map V.int)) hh
 have eh:upd H h (.lst (ns.map V.int)) h=some (.lst (ns.map V.int)):=AK
 revert s1 eh
 generalize upd H h (.lst (ns.map V.int))=H1
 intro s1 eh
 have X1:=X.same s1
 have on:D6 rows w i j:=⟨by omega,by omega,by omega,by omega⟩
 refine⟨A,w,rows,n,cs,outs,pl,h,v,ns,i,j,rfl,TT.1,TT.2.1,X1.b,s1 _ _ hpl,SqL.of eh,by omega,by omega,λ_ _ nd H2 ndr ndm B2 s2=> ?_,λy=>absurd on y,λ_ ⟨x,hx,hn⟩=>absurd (hns x hx) hn⟩
 have fA:∀ x,A.F x->F x:=λx f=>fF x (.inl (.inl f))
 have hsl2:=s2 _ _ (s1 _ _ hsl) λf=>nsl (fA _ f)
 have S2:=X1.s.sb s2 fA (λf=>nsd (fA _ f)) (λf=>nL (.inl f)) (λf=>ngo (.inl f)) (λx f=>(X1.b.loose f).1)
 have ht2:=s2 _ _ (s1 _ _ ht) λf=>(X1.b.loose f).1 _ (s1 _ _ ht)
 have hpl2:=s2 _ _ (s1 _ _ hpl) λf=>(X1.b.loose f).1 _ (s1 _ _ hpl)
 have hnl2:=s2 _ _ (s1 _ _ hnl) λf=>nnl (fA _ f)
 obtain⟨⟨kvs,hd,kc,ko⟩,⟨tl,hL,own⟩,⟨kvo,hg,hk,kk⟩⟩:=S2
 have htl:tl.length=cs.length:=own.length
 refine BD (SqL.of hsl2) (n:=k) rfl es ⟨sd,rfl,_,FG hd kc,cs.length,.inl ⟨_,SqL.of hL,by rw[List.length_map,htl]⟩,?_⟩
 push_cast[]
 push_cast[↓xL]
 refine BD (SqL.of hsl2) (n:=k) rfl es ⟨sd,rfl,_,FG hd kc,.inl ⟨rfl,_,SqL.of hL⟩,L,_,_,rfl,rfl,hL,Nat.lt_of_lt_of_le (show(tl.map V.ref).length<1000 by rw[List.length_map,htl];omega) (by decide),?_⟩
 have s3:SameBut (· =L) H2 (upd H2 L (.lst (tl.map V.ref++[.ref t]))):=λy o e ny=>by rw[AI ny];exact e
 have eL3:upd H2 L (.lst (tl.map V.ref++[.ref t])) L=some (.lst ((tl++[t]).map V.ref)):=by rw[AK,List.map_append];rfl
 revert s3 eL3
 generalize upd H2 L (.lst (tl.map V.ref++[.ref t]))=H3
 intro s3 eL3
 have lo:∀ x,x=L->CP (H2 x):=λx hx=>hx ▸ E3 hL
 have B3:=B2.sb s3 lo λx hx f=>nL (.inl (hx ▸ f))
 have fL:F L:=fF L (.inr rfl)
 have tk:∀ {y:Addr} {xs:List V},H2 y=some (.tup xs)->H3 y=some (.tup xs):=λe=>s3 _ _ e λz=>(lo _ z).1 _ e
 refine q nd H3 ndr ndm ⟨?_,⟨⟨kvs,s3 _ _ hd λz=>nsd (z ▸ fL),kc,ko⟩,⟨tl++[t],eL3,Paired.snoc (Paired.mapP own λt' c' ⟨pl',nl',ns',h1,h2,h3,h4,h5⟩=>⟨pl',nl',ns',tk h1,tk h2,s3 _ _ h3 λz=>h4 (z ▸ fL),h4,h5⟩) ⟨pl,nl,ns,tk ht2,tk hpl2,s3 _ _ hnl2 λz=>nnl (z ▸ fL),nnl,λx hx=>(ndm x).mpr (.inl hx),by omega⟩⟩,⟨kvo,s3 _ _ hg nLg,hk,kk.mono (by simp)⟩⟩,X.h.snoc (Dg X.b)⟩ (λy o e ny=>s3 _ _ (s2 _ _ (s1 _ _ e) λf=>ny (.inl (.inl f))) λz=>ny (.inr z))
 simpa using B3
structure BW(a:Ad)(F:Addr->Prop)(H:Hp)(A:BA)(sd L go:Addr)(w:Nat)(r0 rows:List (List V))(cs:List Ch)(rows':List (List V))(n':Nat)(outs':Int->Bool)(H':Hp):Prop where
 x:Half a F H' A sd L go w r0 rows' n' cs outs'
 l:rows'.length=rows.length
 s:SameBut (λx=>A.W x\/x=go) H H'
theorem eO(TT:D8 K a)(X:Half a F H A sd L go w r0 rows n cs outs)(hc:cs.length<=90)(hhl:H hl=some (.lst xs))(hsl:H sl=some (.lst ys))(ek:xs[k]? =some (.ref A.b))(es:ys[k]? =some (.ref sd))(hz:H z=some (.tup [.int rows.length,.int w]))(hr:1<=rows.length)(fF:∀ x,A.W x\/x=go->F x)(nhl:¬ F hl)(nsl:¬ F sl)(nsd:¬ F sd)(nL:¬ A.W L)(ngo:¬ A.W go)(nLg:L≠go)
  (q:∀ (rows':List (List V)) (n':Nat) (outs':Int->Bool) (y7':Option V) (H':Hp),Half a F H' A sd L go w r0 rows' n' cs outs'->rows'.length=rows.length->SameBut (λx=>A.W x\/x=go) H H'->D.nx [some (.ref hl),some (.ref sl),some (.int c),some (.ref z),some (.ref pd),some (.ref t),some (.int k),y7'] H') :
  SW K a (λ_=>E) (λ_=>E) D [some (.ref hl),some (.ref sl),some (.int c),some (.ref z),some (.ref pd),some (.ref t),some (.int k),y7] H:=by
 push_cast[↓xQ,↓DA]
 have q0:=DP (c:=c+(k:Int)) (p:=10111) (m:=4) (by decide)
 have q1:=E4 (c:=c+(k:Int)) (p:=10111) (m:=4) (by decide)
 refine⟨by omega,by omega,?_⟩
 have tk:∀ {H':Hp} {y:Addr} {xs:List V},SameBut (λx=>A.W x\/x=go) H H'->H y=some (.tup xs)->H' y=some (.tup xs):=λs e=>s _ _ e λf=>by
  rcases f with f | f
  ·exact E7 X.b f _ e
  ·obtain⟨kvo,hg,_⟩:=X.s.g
   rw[f,hg]at e;cases e
 refine HH (λi σ H'=>(∃ rows' n' outs',BW a F H A sd L go w r0 rows cs rows' n' outs' H')/\∃ y,σ=[some (.ref hl),some (.ref sl),some (.int c),some (.ref z),some (.ref pd),some (.ref t),some (.int k),y]) ⟨⟨rows,n,outs,X,rfl,SameBut.refl _⟩,_,rfl⟩ (λi σ H1 hi ⟨⟨rows1,n1,outs1,X1,hl1,s1⟩,y,eσ⟩=> ?_) (λσ H1 ⟨⟨rows1,n1,outs1,X1,hl1,s1⟩,y,eσ⟩=> ?_)
 ·subst eσ
  push_cast[↓xP,Int.zero_add]
  have m0:(0:Int)<rows.length:=by omega
  refine BD (SqL.of (s1 _ _ hhl λf=>nhl (fF _ f))) (n:=k) rfl ek ⟨.inl ⟨by omega,by omega⟩,BH (tk s1 hz) (n:=0) rfl rfl ?_⟩
  push_cast[↓DA]
  have b0:=DP (c:=c+7 * (i:Int)+(k:Int)) (p:=10133) m0
  have b1:=E4 (c:=c+7 * (i:Int)+(k:Int)) (p:=10133) m0
  obtain⟨b,eb⟩:∃ b:Nat,BX (c+7 * (i:Int)+(k:Int)) 10133 rows.length=b:=⟨(BX (c+7 * (i:Int)+(k:Int)) 10133 rows.length).toNat,by omega⟩
  rw[eb]
  refine⟨m0,BD (SqL.of (s1 _ _ hsl λf=>nsl (fF _ f))) (n:=k) rfl es ?_⟩
  refine⟨A,w,rows1,n1,cs,outs1,b,sd,L,go,F,rfl,TT,X1.b,by omega,X1.h.ct,hc,X1.s,fF,λf=>nsd (fF _ (.inl f)),nL,ngo,λe=>nsd (fF _ (.inr e)),nLg,λrow H2 er B2 S2 s2=>⟨true,rfl,C3 (by decide) ?_⟩⟩
  exact⟨_,_,_,⟨B2,S2,X1.h.write er⟩,by rw[List.length_set];exact hl1,s1.trans s2⟩
 ·subst eσ
  exact q rows1 n1 outs1 y H1 X1 hl1 s1
end
theorem Dh{l m:List Int}(h1:l.Pairwise (· <·))(h2:m.Pairwise (· <·))(h:∀ x,x∈l↔x∈m):l=m:=by
 have n1:l.Nodup:=h1.imp λh=>by omega
 have n2:m.Nodup:=h2.imp λh=>by omega
 exact((List.perm_ext_iff_of_nodup n1 n2).mpr h).eq_of_pairwise (λx y _ _ a b=>by omega) h1 h2
theorem eP{g:TG}{tb:TS}{D:Ends}{σ:St}(P1:St->Hp->Prop)
  (h0:g (.int 0) σ H λσ1 H1=>tb { D with nx:=P1,ct:=P1,bk:=D.nx } σ1 H1) (h1:∀ σ H,P1 σ H->g (.int 1) σ H λσ2 H2=>tb { D with nx:=D.nx,ct:=D.nx,bk:=D.nx } σ2 H2):DE (DL 0 2) g tb D σ H:=by
 refine HH (λi=>match i with
  | 0=>λσ' H'=>σ'=σ/\H'=H
  | 1=>P1
  | _=>D.nx) ⟨rfl,rfl⟩ (λi σ' H' hi h=> ?_) (λσ' H' h=>h)
 match i with
 | 0 =>
  obtain⟨rfl,rfl⟩:=h
  exact h0
 | 1=>exact h1 _ _ h
 | i+2=>omega
theorem Dj{cs:List Ch}{ch:Ch}{i j:Int}:DH (cs++[ch]) i j=if(ch.blk:Int)=i/\(ch.cell:Int)=j then some ch.val else DH cs i j:=by
 unfold DH
 rw[NV]
 split
 ·simp
 ·cases e:CA cs i j with
  | none=>rfl
  | some k =>
   have:=QF e
   show((cs++[ch])[k]?).map _=(cs[k]?).map _
   rw[List.getElem?_append_left this]
section
variable{S:WS}{w:Nat}{r0 r0' rows rows':List (List V)}{n n':Nat}{cs:List Ch}{outs outs':Int->Bool}
theorem W26.there(I:W26 a H S w r0 r0' rows rows' n n' cs outs outs'){x:Addr}(h:S.B x):H x≠none/\∀ xs,H x≠some (.tup xs):=by
 have of:∀ {o:HO},H x=some o->(∀ xs,o≠.tup xs)->H x≠none/\∀ xs,H x≠some (.tup xs):=λe ne=>by
  rw[e]
  exact⟨λz=>(by cases z),λxs z=>ne xs (Option.some.inj z)⟩
 rcases h with h | h | h | h | h | h | h
 ·exact⟨λz=>HY I.b0 z h,E7 I.b0 h⟩
 ·exact⟨λz=>HY I.b1 z h,E7 I.b1 h⟩
 ·obtain⟨tl,e,_⟩:=I.s0.l
  exact of (h ▸ e) λ_ z=>by cases z
 ·obtain⟨tl,e,_⟩:=I.s1.l
  exact of (h ▸ e) λ_ z=>by cases z
 ·obtain⟨tl,e,_⟩:=I.s0.g
  exact of (h ▸ e) λ_ z=>by cases z
 ·obtain⟨tl,e,_⟩:=I.s1.g
  exact of (h ▸ e) λ_ z=>by cases z
 ·obtain⟨d,e,kvs,hd,_⟩:=I.pl
  rcases hd with rfl | ⟨o,rfl⟩<;>exact of (h ▸ e) λ_ z=>by cases z
theorem HoldOk.at{H':Hp}(h:HoldOk H r0 rows cs outs):HoldOk H' r0 rows cs outs:=⟨h.ct,h.sh,h.ba⟩
theorem W26.same{H':Hp}(I:W26 a H S w r0 r0' rows rows' n n' cs outs outs')(s:Same H H'):W26 a H' S w r0 r0' rows rows' n n' cs outs outs':=by
 obtain⟨d,e,p⟩:=I.pl
 exact⟨I.b0.same s,I.b1.same s,I.s0.same s,I.s1.same s,I.h0.at,I.h1.at,⟨d,s _ _ e,p⟩,⟨I.gr.1.keep s.tk,I.gr.2.keep s.tk⟩,λc hc=>(I.gc c hc).keep s.tk,I.ap,I.sz⟩
end
theorem Dk(h:LY K a vs H Q E):SX K a (λ_=>E) (A7 Q) (A5 ["holds","sides","cell","size","places","one","k","j"] vs) H:=by
 obtain⟨hl,sl,z,c,S,w,r0,r0',rows,rows',n,n',cs,outs,outs',rfl,TT,I,hc,⟨kvp,hpd⟩,hz,hhl,hsl,nhl,nsl,q⟩:=h
 obtain⟨z1,z2,z3,z4,z5⟩:=I.sz
 obtain⟨⟨kvs,hd,kc,ko⟩,⟨tl,hL,own⟩,_⟩:=I.s0
 have htl:tl.length=cs.length:=own.length
 have hrl:rows.length=r0.length:=I.h0.ba.1
 have hrl':rows'.length=r0.length:=by rw[I.h1.ba.1,z3]
 push_cast[SX,↓xI]
 refine BD (SqL.of hsl) (n:=0) rfl rfl ⟨S.sd,rfl,_,FG hd kc,cs.length,.inl ⟨_,SqL.of hL,by rw[List.length_map,htl]⟩,?_⟩
 refine⟨c,z,r0.length,w,cs.length,rfl,hz,z1,z4,by omega,λt pl nl i j v ns H1 s1 et epl hi hj gv hnl enl hns hn4=> ?_⟩
 have I1:=I.same s1
 have nBnl:¬ S.B nl:=λf=>(I.there f).1 hnl
 have X0:Half a S.B H1 S.A S.sd S.L S.go w r0 rows n cs outs:=⟨I1.b0,I1.s0,I1.h0⟩
 have X1:Half a S.B H1 S.A' S.sd' S.L' S.go' w r0' rows' n' cs outs':=⟨I1.b1,I1.s1,I1.h1⟩
 have ap:=I.ap
 have bA:∀ x,S.A.W x->S.B x:=λx f=>.inl f
 have bA':∀ x,S.A'.W x->S.B x:=λx f=>.inr (.inl f)
 have bL:∀ x,x=S.L->S.B x:=λx f=>.inr (.inr (.inl f))
 have bL':∀ x,x=S.L'->S.B x:=λx f=>.inr (.inr (.inr (.inl f)))
 have bg:∀ x,x=S.go->S.B x:=λx f=>.inr (.inr (.inr (.inr (.inl f))))
 have bg':∀ x,x=S.go'->S.B x:=λx f=>.inr (.inr (.inr (.inr (.inr (.inl f)))))
 have bp:∀ x,x=S.pd->S.B x:=λx f=>.inr (.inr (.inr (.inr (.inr (.inr f)))))
 have nsd:=ap.s S.sd (.inl rfl)
 have nsd':=ap.s S.sd' (.inr rfl)
 have wL:=ap.w S.L (.inr (.inr (.inl rfl)))
 have wL':=ap.w S.L' (.inr (.inr (.inr (.inl rfl))))
 have wg:=ap.w S.go (.inr (.inr (.inr (.inr (.inl rfl)))))
 have wg':=ap.w S.go' (.inr (.inr (.inr (.inr (.inr (.inl rfl))))))
 have wp:=ap.w S.pd (.inr (.inr (.inr (.inr (.inr (.inr rfl))))))
 obtain⟨l1,l2,l3,l4,l5,l6,l7,l8,l9,l10⟩:=ap.l
 have d01:=ap.h
 have d10:∀ x,S.A'.W x->¬ S.A.W x:=λx f f'=>ap.h x f' f
 push_cast[↓xM]
 have hhl1:=s1 _ _ hhl
 have hsl1:=s1 _ _ hsl
 refine⟨by decide,by decide,eP (λσ H'=>∃ nd:List Int,σ=[some (.ref hl),some (.ref sl),some (.int c),some (.ref z),some (.ref S.pd),some (.ref t),some (.int 0),none]/\nd.Pairwise (· <·)/\(∀ x,x∈nd↔x∈ns\/∃ k:Nat,CA cs i j=some k/\x=k)/\Half a S.B H' S.A S.sd S.L S.go w r0 rows n (cs++[⟨i,j,v,nd⟩]) outs/\SameBut (λx=>S.A.W x\/x=S.L) H1 H') ?_ ?_⟩
 ·exact eM (k:=0) TT X0 hc hhl1 hsl1 rfl rfl et epl enl (by omega) hj hns hn4 nBnl (λx f=>f.elim (bA x) (bL x)) nhl nsl nsd wL.1 wg.1 l2.symm λnd H2 ndr ndm X s=>⟨nd,rfl,ndr,ndm,X,s⟩
 rintro σ H2 ⟨nd,rfl,ndr,ndm,Y0,s2⟩
 have tk1:∀ {H':Hp} {y:Addr} {xs:List V},SameBut S.B H1 H'->H1 y=some (.tup xs)->H' y=some (.tup xs):=λs e=>s _ _ e λf=>(I1.there f).2 _ e
 obtain⟨tl1,hL1,_⟩:=X0.s.l
 have Y1:Half a S.B H2 S.A' S.sd' S.L' S.go' w r0' rows' n' cs outs':=X1.far (P:=(· =S.L)) X0.b d10 (λx hx=>hx ▸ E3 hL1) (λx hx=>hx ▸ wL.2) s2 (λx f=>f.elim (bA x) (bL x)) (λf=>nsd' (f.elim (bA _) (bL _))) (λf=>f.elim wL'.1 l1.symm) (λf=>f.elim wg'.1 l3.symm)
 have w2:SameBut S.B H1 H2:=s2.wide λx f=>f.elim (bA x) (bL x)
 refine eM (k:=1) (n:=n') TT Y1 hc (w2 _ _ hhl1 nhl) (w2 _ _ hsl1 nsl) rfl rfl (tk1 w2 et) (tk1 w2 epl) (w2 _ _ enl nBnl) (by omega) hj hns hn4 nBnl (λx f=>f.elim (bA' x) (bL' x)) nhl nsl nsd' wL'.2 wg'.2 l5.symm λnd' H3 ndr' ndm' Z1 s3=> ?_
 obtain rfl:nd'=nd:=Dh ndr' ndr λx=>by rw[ndm,ndm']
 obtain⟨tl2,hL2,_⟩:=Y1.s.l
 have Z0:Half a S.B H3 S.A S.sd S.L S.go w r0 rows n (cs++[⟨i,j,v,nd'⟩]) outs:=Y0.far (P:=(· =S.L')) Y1.b d01 (λx hx=>hx ▸ E3 hL2) (λx hx=>hx ▸ wL'.1) s3 (λx f=>f.elim (bA' x) (bL' x)) (λf=>nsd (f.elim (bA' _) (bL' _))) (λf=>f.elim wL.2 l1) (λf=>f.elim wg.2 l4.symm)
 have w3:SameBut S.B H1 H3:=w2.trans (s3.wide λx f=>f.elim (bA' x) (bL' x))
 have pd3:H3 S.pd=some (.dT kvp):=s3 _ _ (s2 _ _ (s1 _ _ hpd) λf=>f.elim wp.1 l7) λf=>f.elim wp.2 l8
 have et3:=tk1 w3 et
 have epl3:=tk1 w3 epl
 obtain⟨d0,e0,kv0,hkv0,hv0,hkl,hkk⟩:=I.pl
 obtain rfl:kv0=kvp:=by
  rw[hpd]at e0
  cases e0
  rcases hkv0 with e | ⟨o,e⟩
  ·cases e;rfl
  ·cases e
 push_cast[↓xN]
 refine BH et3 (n:=1) rfl rfl (BH et3 (n:=0) rfl rfl ⟨_,XF pd3 epl3 (by omega),?_⟩)
 have s4:SameBut (· =S.pd) H3 (upd H3 S.pd (.dT (BT kv0 [Sum.inl ↑i,Sum.inl ↑j] v))):=λy o e ny=>by rw[AI ny];exact e
 have pd4:upd H3 S.pd (.dT (BT kv0 [Sum.inl ↑i,Sum.inl ↑j] v)) S.pd=some (.dT (BT kv0 [.inl ↑i,.inl ↑j] v)):=AK
 revert s4 pd4
 generalize upd H3 S.pd (.dT (BT kv0 [Sum.inl ↑i,Sum.inl ↑j] v))=H4
 intro s4 pd4
 have lp:∀ x,x=S.pd->CP (H3 x):=λx hx=>hx ▸ XZ pd3
 have U0:Half a S.B H4 S.A S.sd S.L S.go w r0 rows n (cs++[⟨i,j,v,nd'⟩]) outs:=Z0.far (P:=(· =S.pd)) Z1.b d01 lp (λx hx=>hx ▸ wp.1) (s4.wide λx f=>.inr f) (λx f=>f.elim (bA' x) (bp x)) (λf=>nsd (f.elim (bA' _) (bp _))) (λf=>f.elim wL.2 l7.symm) (λf=>f.elim wg.2 l9.symm)
 have U1:Half a S.B H4 S.A' S.sd' S.L' S.go' w r0' rows' n' (cs++[⟨i,j,v,nd'⟩]) outs':=Z1.far (P:=(· =S.pd)) Z0.b d10 lp (λx hx=>hx ▸ wp.2) (s4.wide λx f=>.inr f) (λx f=>f.elim (bA x) (bp x)) (λf=>nsd' (f.elim (bA _) (bp _))) (λf=>f.elim wL'.1 l8.symm) (λf=>f.elim wg'.1 l10.symm)
 have w4:SameBut S.B H1 H4:=w3.trans (s4.wide λx f=>bp x f)
 clear Z0 Z1 Y0 Y1 X0 X1 s2 s3 s4
 have hc':(cs++[(⟨i,j,v,nd'⟩:Ch)]).length<=90:=by simp;omega
 have ez4:=tk1 w4 (s1 _ _ hz)
 push_cast[↓xR]
 refine⟨by decide,by decide,eP (λσ H'=>∃ (rowsB:List (List V)) (nB:Nat) (oB:Int->Bool) (y7:Option V),σ=[some (.ref hl),some (.ref sl),some (.int c),some (.ref z),some (.ref S.pd),some (.ref t),some (.int 0),y7]/\BW a S.B H4 S.A S.sd S.L S.go w r0 rows (cs++[⟨i,j,v,nd'⟩]) rowsB nB oB H') ?_ ?_⟩
 ·exact eO (k:=0) TT U0 hc' (w4 _ _ hhl1 nhl) (w4 _ _ hsl1 nsl) rfl rfl (by rw[hrl];exact ez4) (by omega) (λx f=>f.elim (bA x) (bg x)) nhl nsl nsd wL.1 wg.1 l2 λrows2 n2 o2 y7 H5 X hl2 s=>⟨rows2,n2,o2,y7,rfl,X,hl2,s⟩
 rintro σ H5 ⟨rows2,n2,o2,y7,rfl,V0,hl2,s5⟩
 obtain⟨kg,hg4,_⟩:=U0.s.g
 have V1:Half a S.B H5 S.A' S.sd' S.L' S.go' w r0' rows' n' (cs++[⟨i,j,v,nd'⟩]) outs':=U1.far (P:=(· =S.go)) U0.b d10 (λx hx=>hx ▸ JB hg4) (λx hx=>hx ▸ wg.2) s5 (λx f=>f.elim (bA x) (bg x)) (λf=>nsd' (f.elim (bA _) (bg _))) (λf=>f.elim wL'.1 l4) (λf=>f.elim wg'.1 l6.symm)
 have w5:SameBut S.B H1 H5:=w4.trans (s5.wide λx f=>f.elim (bA x) (bg x))
 refine eO (k:=1) TT V1 hc' (w5 _ _ hhl1 nhl) (w5 _ _ hsl1 nsl) rfl rfl (by rw[hrl'];exact tk1 w5 (s1 _ _ hz)) (by omega) (λx f=>f.elim (bA' x) (bg' x)) nhl nsl nsd' wL'.2 wg'.2 l5 λrows3 n3 o3 y7' H6 T1 hl3 s6=> ?_
 obtain⟨kg',hg5,_⟩:=V1.s.g
 have T0:Half a S.B H6 S.A S.sd S.L S.go w r0 rows2 n2 (cs++[⟨i,j,v,nd'⟩]) o2:=V0.far (P:=(· =S.go')) V1.b d01 (λx hx=>hx ▸ JB hg5) (λx hx=>hx ▸ wg'.1) s6 (λx f=>f.elim (bA' x) (bg' x)) (λf=>nsd (f.elim (bA' _) (bg' _))) (λf=>f.elim wL.2 l3) (λf=>f.elim wg.2 l6)
 have w6:SameBut S.B H1 H6:=w5.trans (s6.wide λx f=>f.elim (bA' x) (bg' x))
 have pd6:=s6 _ _ (s5 _ _ pd4 λf=>f.elim wp.1 l9) λf=>f.elim wp.2 l10
 clear U0 U1 V0 V1 s5 s6
 have tk6:FI H1 H6:=λy xs e=>tk1 w6 e
 have J:W26 a H6 S w r0 r0' rows2 rows3 n2 n3 (cs++[⟨i,j,v,nd'⟩]) o2 o3:=by
  refine⟨T0.b,T1.b,T0.s,T1.s,T0.h,T1.h,⟨_,pd6,BT kv0 [.inl ↑i,.inl ↑j] v,.inl rfl,λi' j'=> ?_,?_,λpr hpr=> ?_⟩,⟨I1.gr.1.keep tk6,I1.gr.2.keep tk6⟩,λch hch=> ?_,ap,z1,z2,z3,z4,z5⟩
  ·rw[M3,Dj]
   by_cases y:i'=i/\j'=j
   ·obtain⟨rfl,rfl⟩:=y
    simp
   ·have y1:¬ ([Sum.inl i',Sum.inl j']:List AN)=[.inl (i:Int),.inl (j:Int)]:=λu=>y (by simpa using u)
    have y2:¬ ((i:Int)=i'/\(j:Int)=j'):=λu=>y ⟨by omega,by omega⟩
    rw[if_neg y1,if_neg y2]
    exact hv0 i' j'
  ·have:=IM kv0 [.inl (i:Int),.inl (j:Int)] v
   simp;omega
  ·rcases Dd hpr with e | ⟨pr',h',e⟩
   ·exact⟨i,j,e⟩
   ·rw[<-e];exact hkk pr' h'
  ·rcases List.mem_append.mp hch with h' | h'
   ·exact(I1.gc ch h').keep tk6
   ·rw[List.mem_singleton.mp h'];exact gv.keep tk6
 have w06:SameBut S.B H H6:=s1.sb.trans w6
 have ih:∀ {rw:List (List V)},JF (cs++[⟨i,j,v,nd'⟩]) rw i j=some v:=λ{rw}=>by
  unfold JF
  rw[NV,if_pos ⟨rfl,rfl⟩]
  simp
 push_cast[↓xS]
 have et6:=tk6 _ _ et
 have epl6:=tk6 _ _ epl
 have hhl6:=w6 _ _ hhl1 nhl
 have gv6:GoodV 8 H6 v:=(gv.keep tk6).up
 obtain⟨dx,hob⟩:=J.b0.bk.ob
 have on:D6 rows2 w i j:=⟨by omega,by omega,by omega,by omega⟩
 have on':D6 rows3 w i j:=⟨by omega,by omega,by omega,by omega⟩
 refine BD (SqL.of hhl6) (n:=0) rfl rfl ⟨_,rfl,_,_,hob,CO (by decide +kernel),BH et6 (n:=0) rfl rfl ⟨S.A,w,rows2,n2,_,o2,pl,i,j,rfl,TT.1,TT.2.1,J.b0,epl6,λ_ v2 H7 ev s7=> ?_,λy=>absurd on y⟩⟩
 rw[ih]at ev
 cases ev
 refine BH (s7 _ _ et6) (n:=1) rfl rfl ⟨v,v,rfl,.inl ⟨rfl,gv6.keep s7.tk⟩,λH8 s8=>⟨true,rfl,E6 rfl ?_⟩⟩
 have s68:=s7.trans s8
 have J8:=J.same s68
 obtain⟨dx',hob'⟩:=J8.b1.bk.ob
 refine BD (SqL.of (s68 _ _ hhl6)) (n:=1) rfl rfl ⟨_,rfl,_,_,hob',CO (by decide +kernel),BH (s68 _ _ et6) (n:=0) rfl rfl ⟨S.A',w,rows3,n3,_,o3,pl,i,j,rfl,TT.1,TT.2.1,J8.b1,s68 _ _ epl6,λ_ v2 H9 ev s9=> ?_,λy=>absurd on' y⟩⟩
 rw[ih]at ev
 cases ev
 have s69:=s68.trans s9
 refine BH (s69 _ _ et6) (n:=1) rfl rfl ⟨v,v,rfl,.inl ⟨rfl,gv6.keep s69.tk⟩,λH10 s10=> ?_⟩
 have s610:=s69.trans s10
 exact q rows2 rows3 n2 n3 _ o2 o3 H10 (J.same s610) ⟨_,s610 _ _ pd6⟩ (w06.trans s610.sb)
theorem Dl(h:LY K a vs H Q E):vs.length=5:=by
 obtain⟨_,_,_,_,_,_,_,_,_,_,_,_,_,_,_,rfl,_⟩:=h
 rfl
theorem eQ{α β :Type}{F F': α -> β ->Prop}{x: α}{v: β}(hx:F' x v):∀ {l:List α} {m:List β} {i:Nat},Paired F l m->l.Nodup->l[i]? =some x->(∀ y r,y≠x->F y r->F' y r)->Paired F' l (m.set i v)
 | _,_,_,.nil,_,e,_=>by simp at e
 | _::r,_,0,.cons _ t,nd,e,k=>by
  cases e
  have nx:=(List.nodup_cons.mp nd).1
  exact .cons hx (paired_off nx t k)
 | _::_,_,i+1,.cons h t,nd,e,k=>by
  obtain⟨nx,nd'⟩:=List.nodup_cons.mp nd
  have e:_=some x:=(List.getElem?_cons_succ ..).symm.trans e
  exact .cons (k _ _ (λz=>nx (z ▸ List.mem_of_getElem? e)) h) (eQ hx t nd' e k)
where
 paired_off {α β :Type} {F F': α -> β ->Prop} {x: α}:∀ {l:List α} {m:List β},x∉l->Paired F l m->(∀ y r,y≠x->F y r->F' y r)->Paired F' l m
  | _,_,_,.nil,_=>.nil
  | _,_,n,.cons h t,k=>.cons (k _ _ (λz=>n (z ▸ List.mem_cons_self)) h) (paired_off (λz=>n (List.mem_cons_of_mem _ z)) t k)
def DI(rows:List (List V))(b j:Nat):Option V:=(rows[b]?).bind (·[j]?)
theorem Dm{r r':List (List V)}(hl:r.length=r'.length)(h:∀ b j,DI r b j=DI r' b j):r=r':=by
 refine List.ext_getElem? λb=> ?_
 by_cases hb:b<r.length
 ·have e:=List.getElem?_eq_getElem hb
  have e':=List.getElem?_eq_getElem (show b<r'.length by omega)
  rw[e,e']
  congr 1
  refine List.ext_getElem? λj=> ?_
  have:=h b j
  unfold DI at this
  rw[e,e']at this
  exact this
 ·rw[List.getElem?_eq_none (by omega),List.getElem?_eq_none (by omega)]
theorem Dp{rows:List (List V)}{b:Nat}{row:List V}{j:Nat}{v:V}(er:rows[b]? =some row)(hj:j<row.length)(b' j':Nat):DI (rows.set b (row.set j v)) b' j'=if b'=b/\j'=j then some v else DI rows b' j':=by
 unfold DI
 by_cases hb:b'=b
 ·subst hb
  rw[List.getElem?_set_self (List.getElem?_eq_some_iff.mp er).1,er]
  show(row.set j v)[j']? =_
  by_cases hj':j'=j
  ·subst hj'
   rw[List.getElem?_set_self hj];simp
  ·rw[List.getElem?_set_ne (λz=>hj' z.symm),if_neg (λz=>hj' z.2)];rfl
 ·rw[List.getElem?_set_ne (λz=>hb z.symm),if_neg (λz=>hb z.1)]
theorem TR{r0 rows:List (List V)}{cs:List Ch}{outs:Int->Bool}{w:Nat}(h:HoldOk H r0 rows cs outs)(wn:BI cs.length outs=[])(wd:∀ r∈rows,r.length=w)(inn:∀ c∈cs,c.blk<r0.length/\c.cell<w)(b j:Nat):(CA cs b j=none->DI rows b j=DI r0 b j)/\∀ v,DH cs b j=some v->DI rows b j=some v/\b<r0.length/\j<w:=by
 refine⟨h.ba.2 b j,λv hv=> ?_⟩
 unfold DH at hv
 cases e:CA cs b j with
 | none=>rw[e]at hv;cases hv
 | some k =>
  rw[e]at hv
  obtain⟨c0,e0,b0,j0⟩:=HM e
  have hv:(cs[k]?).map (·.val)=some v:=hv
  rw[e0]at hv
  cases hv
  obtain⟨i1,i2⟩:=inn c0 (List.mem_of_getElem? e0)
  have hb:b<r0.length:=by omega
  have hj:j<w:=by omega
  have hbr:b<rows.length:=by rw[h.ba.1];exact hb
  have er:=List.getElem?_eq_getElem hbr
  obtain⟨c,ec,hr⟩:=tV h.sh er (by rw[wd _ (List.getElem_mem hbr)];exact hj) (λk hk=>eI wn k hk) e
  rw[e0]at ec
  cases ec
  refine⟨?_,hb,hj⟩
  unfold DI
  rw[er]
  exact hr
structure Dq(H:Hp)(R pd:Addr)(ra:List Addr)(w:Nat)(r0 rows:List (List V))(kvs:List (List AN × V))(o:Obj)(m:Nat)(rm:List (List V))(H':Hp):Prop where
 r:GA H' R ra rm
 l:rm.length=r0.length
 w:∀ r∈rm,r.length=w
 c:∀ b j:Nat,DI rm b j=DI rows b j\/(DI rm b j=DI r0 b j/\∀ p∈kvs.take m,p.1≠[.inl (b:Int),.inl (j:Int)])
 s:SameBut (λx=>x=pd\/x∈ra) H H'
 d:H' pd=some (.frz o (.dT kvs))
theorem eR {p cl R pd:Addr} {ra:List Addr} {w:Nat} {r0 rows:List (List V)} {n:Nat} {cs:List Ch} {outs:Int->Bool} {kvs:List (List AN × V)} {o:Obj} {H1:Hp} (TP:CW K a) (P:PlankAt a H p cl w rows n) (RL:GA H R ra r0) (ho:HoldOk H r0 rows cs outs) (wn:BI cs.length outs=[]) (lo:CP (H pd)) (npd:pd∉ra) (nRp:R≠pd) (hv:∀ i j:Int,AZ kvs [.inl i,.inl j]=DH cs i j) (hkk:∀ p∈kvs,∃ i j:Int,p.1=[.inl i,.inl j]) (hkl:kvs.length<=cs.length) (inn:∀ c∈cs,c.blk<r0.length/\c.cell<w) (wd0:∀ r∈r0,r.length=w) (gr:good7 H rows) (hc:cs.length<=90) (hr:r0.length<=100) (ncl:cl∉ra) (npc:cl≠pd) (s1:SameBut (λx=>x=pd\/x∈ra) H H1) (r1:GA H1 R ra r0) (d1:H1 pd=some (.frz o (.dT kvs)))
    (q:∀ (d':HO) (H':Hp),H' pd=some d'->JL d' cs->SameBut (λx=>x=pd\/x∈ra) H H'->Q (.bl true) H') :
    DE (FH pd o kvs) (AW 3) (SY K a (λ_=>E) (λ_=>E)) { nx:=AL (SZ K a (λ_=>E) (λ_=>E)) (S5 K a (λ_=>E) (λ_=>E)) (A7 Q),rt:=Q } [some (.ref p),some (.ref R),some (.ref pd),none,none] H1:=by
  have hral:ra.length=r0.length:=RL.2.1.length
  refine XJ (λm σ H'=>(∃ rm,Dq H R pd ra w r0 rows kvs o m rm H')/\∃ y3,σ=[some (.ref p),some (.ref R),some (.ref pd),y3,none]) ⟨⟨r0,r1,rfl,wd0,λb j=>.inr ⟨rfl,λp hp=>by simp at hp⟩,s1,d1⟩,_,rfl⟩ (λi σ H' _ ⟨⟨_,I⟩,_⟩=>I.d) (λm b k v σ H2 ek eb ⟨⟨rm,I⟩,y3,eσ⟩=> ?_) (λσ H2 ⟨⟨rm,I⟩,y3,eσ⟩=> ?_)
  · subst eσ
    obtain⟨i',j',e⟩:=hkk _ (List.mem_of_getElem? ek)
    have e:k=[.inl i',.inl j']:=e
    subst e
    have eb:H2 b=some (.tup [.int i',.int j']):=eb
    have hvs:∃ v',DH cs i' j'=some v':=by
      rw[<-hv]
      have:(AZ kvs [.inl i',.inl j']).isSome=true:=by
        rw[<-EV]
        exact List.any_eq_true.mpr ⟨_,List.mem_of_getElem? ek,by simp⟩
      exact Option.isSome_iff_exists.mp this
    obtain⟨v',hv'⟩:=hvs
    obtain⟨bi,hbi⟩:∃ bi:Nat,i'=bi:=by
      unfold DH at hv'
      cases e:CA cs i' j' with
      | none=>rw[e]at hv';cases hv'
      | some k =>
        obtain⟨c0,_,b0,_⟩:=HM e
        exact⟨c0.blk,b0.symm⟩
    obtain⟨bj,hbj⟩:∃ bj:Nat,j'=bj:=by
      unfold DH at hv'
      cases e:CA cs i' j' with
      | none=>rw[e]at hv';cases hv'
      | some k =>
        obtain⟨c0,_,_,b0⟩:=HM e
        exact⟨c0.cell,b0.symm⟩
    subst hbi;subst hbj
    obtain⟨c1,c2,c3⟩:=(TR ho wn P.wd inn bi bj).2 v' hv'
    obtain⟨hR2,pr2,nd2,nR2⟩:=I.r
    have er:=List.getElem?_eq_getElem (l:=rm) (i:=bi) (by rw[I.l];exact c2)
    revert er
    generalize rm[bi]'(by rw[I.l];exact c2)=row
    intro er
    have hrw:row.length=w:=I.w row (List.mem_of_getElem? er)
    obtain⟨l,el,hl⟩:=OC pr2 er
    push_cast[↓xT]
    have dg:DGet H2 pd (.ref b) (some v'):=by
      rw[<-hv',<-hv]
      exact .inr ⟨kvs,[.inl (bi:Int),.inl (bj:Int)],b,.inr ⟨o,I.d⟩,rfl,eb,rfl⟩
    refine⟨v',dg,BH eb (n:=0) rfl rfl (BD (SqL.of hR2) (n:=bi) rfl (by rw[List.getElem?_map,el];rfl) (BH eb (n:=1) rfl rfl ⟨l,_,_,bj,rfl,rfl,hl,eK (by omega),?_⟩))⟩
    have lra:l∈ra:=List.mem_of_getElem? el
    have s3:SameBut (· =l) H2 (upd H2 l (.lst (row.set bj v'))):=λy o e ny=>by rw[AI ny];exact e
    have e3:upd H2 l (.lst (row.set bj v')) l=some (.lst (row.set bj v')):=AK
    revert s3 e3
    generalize upd H2 l (.lst (row.set bj v'))=H3
    intro s3 e3
    refine⟨rm.set bi (row.set bj v'),⟨s3 _ _ hR2 λz=>nR2 (z ▸ lra),?_,nd2,nR2⟩,by rw[List.length_set];exact I.l,λr hr=> ?_,λb2 j2=> ?_,I.s.trans (s3.wide λx hx=>.inr (hx ▸ lra)),s3 _ _ I.d λz=>npd (z ▸ lra)⟩
    ·exact eQ (F':=λl r=>H3 l=some (.lst r)) e3 pr2 nd2 el λy r ny e=>s3 _ _ e ny
    · rcases List.mem_or_eq_of_mem_set hr with hr | hr
      ·exact I.w r hr
      ·rw[hr,List.length_set];exact hrw
    · rw[Dp er (by omega)]
      by_cases hb:b2=bi/\j2=bj
      · rw[if_pos hb,hb.1,hb.2]
        exact .inl c1.symm
      · rw[if_neg hb]
        rcases I.c b2 j2 with h | ⟨h,h'⟩
        ·exact .inl h
        · refine .inr ⟨h,λpr hpr=> ?_⟩
          have et:kvs.take (m+1)=kvs.take m++[([.inl (bi:Int),.inl (bj:Int)],v)]:=by
            obtain⟨g1,g2⟩:=List.getElem?_eq_some_iff.mp ek
            rw[<-g2,List.take_append_getElem]
          rw[et]at hpr
          rcases List.mem_append.mp hpr with hpr | hpr
          ·exact h' pr hpr
          · rw[List.mem_singleton.mp hpr]
            intro z
            simp at z
            exact hb ⟨by omega,by omega⟩
  · subst eσ
    have erm:rm=rows:=by
      refine Dm (by rw[I.l,ho.ba.1]) λb j=> ?_
      rcases I.c b j with h | ⟨h,h'⟩
      ·exact h
      · rw[h]
        refine((TR ho wn P.wd inn b j).1 ?_).symm
        cases e:CA cs b j with
        | none=>rfl
        | some k =>
          exfalso
          obtain⟨c0,e0,_,_⟩:=HM e
          have:(AZ kvs [.inl (b:Int),.inl (j:Int)]).isSome=true:=by
            rw[hv]
            unfold DH
            rw[e]
            show((cs[k]?).map (·.val)).isSome=true
            rw[e0];rfl
          rw[<-EV]at this
          obtain⟨pr,hpr,ek⟩:=List.any_eq_true.mp this
          rw[List.take_length]at h'
          exact h' pr hpr (by simpa using ek)
    subst erm
    have lG:∀ x,x=pd\/x∈ra->CP (H x):=by
      rintro x (hx | hx)
      ·exact hx ▸ lo
      · obtain⟨k,ek⟩:=EM hx
        obtain⟨r',_,hx'⟩:=FJ RL.2.1 ek
        exact E3 hx'
    have P2:=P.sbL I.s lG λz=>z.elim npc ncl
    have tk:FI H H2:=λy xs e=>I.s _ _ e λf=>(lG _ f).1 _ e
    have gr2:=gr.keep tk
    obtain⟨hR2,pr2,nd2,nR2⟩:=I.r
    push_cast[↓xX]
    refine⟨ra.length,.inl ⟨_,SqL.of hR2,by rw[List.length_map]⟩,by omega,by omega,?_⟩
    refine HH (λi σ H'=>Same H2 H'/\∃ y4,σ=[some (.ref p),some (.ref R),some (.ref pd),y3,y4]) ⟨Same.refl _,_,rfl⟩ (λi σ H3 hi ⟨s3,y4,eσ⟩=> ?_) (λσ H3 ⟨s3,y4,eσ⟩=> ?_)
    · subst eσ
      have P3:=P2.same s3
      obtain⟨dp,hp⟩:=P3.ob
      push_cast[↓xW,Int.zero_add]
      have hir:i<rm.length:=by rw[I.l];omega
      refine⟨_,_,hp,TC _ _ _,p,cl,w,rm,n,i,rfl,TP,P3,λi' row ei er l1 hl1=> ?_,λz=>by omega⟩
      obtain rfl:i=i':=by omega
      have s4:=AX (o:=.lst row) hl1
      have e4:upd H3 l1 (.lst row) l1=some (.lst row):=AK
      revert s4 e4
      generalize upd H3 l1 (.lst row)=H4
      intro s4 e4
      have s24:=s3.trans s4
      obtain⟨l,el,hl⟩:=OC pr2 er
      have gro:∀ v∈row,GoodV 7 H4 v:=λv hv=>(gr2 row (List.mem_of_getElem? er) v hv).keep s24.tk
      have hw:=P.wd row (List.mem_of_getElem? er)
      have sw:=P.sw
      refine BD (SqL.of (s24 _ _ hR2)) (n:=i) rfl (by rw[List.getElem?_map,el];rfl) ⟨_,_,rfl,.inr ⟨l1,l,row,7,rfl,rfl,rfl,e4,s24 _ _ hl,by omega,gro⟩,λH5 s5=>⟨true,rfl,C3 (by decide) ?_⟩⟩
      exact s24.trans s5
    · subst eσ
      push_cast[↓xY]
      exact q _ H3 (s3 _ _ I.d) ⟨kvs,.inr ⟨o,rfl⟩,hv,hkl,hkk⟩ (I.s.trans s3.sb)
theorem Dv(h:JN K a vs H Q E):S6 K a (λ_=>E) (A7 Q) (A5 ["plank","rows","places","place","block"] vs) H:=by
 obtain⟨p,cl,R,pd,ra,w,r0,rows,n,cs,outs,d,rfl,TP,P,RL,ho,wn,hd,⟨kvs,hk,hv,hkl,hkk⟩,inn,wd0,gr,hc,hr,ncl,np,q⟩:=h
 have nl:∀ {x:Addr} {xs:List V},H x=some (.lst xs)->x≠pd:=λe z=>by
  rw[z,hd]at e
  rcases hk with rfl | ⟨o,rfl⟩<;>cases e
 have lo:CP (H pd):=by
  rw[hd]
  rcases hk with rfl | ⟨o,rfl⟩
  ·exact⟨λ_ z=>(by cases z),λ_ _ _ z=>(by cases z)⟩
  ·exact⟨λ_ z=>(by cases z),λ_ _ _ z=>(by cases z)⟩
 have npd:pd∉ra:=λhm=>by
  obtain⟨k,ek⟩:=EM hm
  obtain⟨r',_,hx'⟩:=FJ RL.2.1 ek
  exact nl hx' rfl
 obtain⟨ts,ecl,_⟩:=P.ls
 push_cast[S6,↓xU,↓P9]
 refine⟨kvs,?_⟩
 rcases hk with rfl | ⟨o,rfl⟩
 ·refine .inl ⟨hd,λo=> ?_⟩
  have s1:SameBut (· =pd) H (upd H pd (.frz o (.dT kvs))):=λy o e ny=>by rw[AI ny];exact e
  exact eR TP P RL ho wn lo npd (nl RL.1) hv hkk hkl inn wd0 gr hc hr ncl (nl ecl) (s1.wide λx f=>.inl f) ⟨s1 _ _ RL.1 (nl RL.1),Paired.mapP RL.2.1 λx r e=>s1 _ _ e (nl e),RL.2.2⟩ AK q
 ·exact .inr ⟨o,hd,eR TP P RL ho wn lo npd (nl RL.1) hv hkk hkl inn wd0 gr hc hr ncl (nl ecl) (SameBut.refl _) RL hd q⟩
theorem Dw(h:JN K a vs H Q E):vs.length=3:=by
 obtain⟨_,_,_,_,_,_,_,_,_,_,_,_,rfl,_⟩:=h
 rfl
theorem eU{p e0:Addr}{l:List Nat}(h1:H p=some (.lst (CC l)))(h2:H e0=some (.lst []))(q:Q (.bl (!decide (l=[]))) H):B8 K (.ref p) (.ref e0) H Q:=by
 refine sO (n:=1) (by decide) (SqL.of h1) (by rw[TF];exact P4 _) (SqL.of h2) ?_
 have:decide (CC l=[])=decide (l=[]):=by
  unfold CC
  rw[decide_eq_decide,List.map_eq_nil_iff]
 rw[this]
 exact q
structure FinAt(a:Ad)(H:Hp)(S:WS)(w:Nat)(r0 r0' rows rows':List (List V))(n n':Nat)(cs:List Ch)(outs outs':Int->Bool)(z pk hl t0 t1 R R':Addr)(ra ra':List Addr):Prop where
 b0:AY a H S.A w rows n cs outs
 b1:AY a H S.A' w rows' n' cs outs'
 h0:HoldOk H r0 rows cs outs
 h1:HoldOk H r0' rows' cs outs'
 pl:∃ d,H S.pd=some d/\JL d cs
 gr:good7 H r0/\good7 H r0'
 gc:∀ c∈cs,GoodV 7 H c.val
 ap:S.Ap
 sz:1<=r0.length/\r0.length<=8/\r0'.length=r0.length/\1<=w/\w<=5
 hz:H z=some (.tup [.int r0.length,.int w])
 hhl:H hl=some (.lst [.ref S.A.b,.ref S.A'.b])
 hpk:H pk=some (.lst [.ref t0,.ref t1])
 ht:H t0=some (.tup [.ref S.A.gp,.ref R])/\H t1=some (.tup [.ref S.A'.gp,.ref R'])
 rl:GA H R ra r0/\GA H R' ra' r0'
 wd:(∀ r∈r0,r.length=w)/\∀ r∈r0',r.length=w
 nn:∀ x,x=hl\/x=pk\/x=R\/x=R'\/x∈ra\/x∈ra'->¬ S.B x
 nr:pk∉ra/\R'∉ra/\∀ x∈ra',x∉ra
section
variable{S:WS}{w:Nat}{r0 r0' rows rows' rA rB:List (List V)}{n n' nA nB:Nat}{cs:List Ch}{outs outs' oA oB:Int->Bool}{z pk hl t0 t1 R R':Addr}{ra ra':List Addr}{H':Hp}
theorem FinAt.up{G:Addr->Prop}(L:FinAt a H S w r0 r0' rows rows' n n' cs outs outs' z pk hl t0 t1 R R' ra ra')(b0:AY a H' S.A w rA nA cs oA)(b1:AY a H' S.A' w rB nB cs oB)(h0:HoldOk H' r0 rA cs oA)(h1:HoldOk H' r0' rB cs oB)(s:SameBut G H H')(g1:∀ x xs,G x->H x≠some (.tup xs))(g2:∀ x xs,G x->¬ S.B x->H x≠some (.lst xs))(g3:¬ G S.pd):FinAt a H' S w r0 r0' rA rB nA nB cs oA oB z pk hl t0 t1 R R' ra ra':=by
 have tk:FI H H':=λy xs e=>s _ _ e λf=>g1 _ _ f e
 have li:∀ {x:Addr} {xs:List V},H x=some (.lst xs)->¬ S.B x->H' x=some (.lst xs):=λe nf=>s _ _ e λf=>g2 _ _ f nf e
 obtain⟨d,e,p⟩:=L.pl
 refine⟨b0,b1,h0,h1,⟨d,s _ _ e g3,p⟩,⟨L.gr.1.keep tk,L.gr.2.keep tk⟩,λc hc=>(L.gc c hc).keep tk,L.ap,L.sz,tk _ _ L.hz,li L.hhl (L.nn _ (.inl rfl)),li L.hpk (L.nn _ (.inr (.inl rfl))),⟨tk _ _ L.ht.1,tk _ _ L.ht.2⟩,⟨⟨li L.rl.1.1 (L.nn _ (.inr (.inr (.inl rfl)))),HZ L.rl.1.2.1 λx r hx e=>li e (L.nn _ (.inr (.inr (.inr (.inr (.inl hx)))))),L.rl.1.2.2⟩,⟨li L.rl.2.1 (L.nn _ (.inr (.inr (.inr (.inl rfl))))),HZ L.rl.2.2.1 λx r hx e=>li e (L.nn _ (.inr (.inr (.inr (.inr (.inr hx)))))),L.rl.2.2.2⟩⟩,L.wd,L.nn,L.nr⟩
theorem FinAt.same(L:FinAt a H S w r0 r0' rows rows' n n' cs outs outs' z pk hl t0 t1 R R' ra ra')(s:Same H H'):FinAt a H' S w r0 r0' rows rows' n n' cs outs outs' z pk hl t0 t1 R R' ra ra' :=
 L.up (G:=λ_=>False) (L.b0.same s) (L.b1.same s) L.h0.at L.h1.at s.sb (λ_ _ f=>f.elim) (λ_ _ f=>f.elim) (λf=>f)
theorem BookAt.farB{A A':BA}{w w':Nat}{rows rows':List (List V)}{n n':Nat}{cs cs':List Ch}{outs outs':Int->Bool}{br:Addr}{kd t:Nat}(B:AY a H A w rows n cs outs)(B':AY a H A' w' rows' n' cs' outs')(d:∀ x,A.W x->¬ A'.W x)(hbr:BroomAt a H br kd t)(s:SameBut (λx=>A'.W x\/x=br) H H'):AY a H' A w rows n cs outs:=by
 obtain⟨C,dx,fs,e',l1⟩:=hbr.few
 have st:SameBut A'.W H (λx=>if x=br then H br else H' x):=λy o e ny=>by
  by_cases z:y=br
  ·subst z;simpa using e
  ·simp only[z,if_false]
   exact s _ _ e λf=>f.elim ny z
 refine BookAt.kept (B.apart B' d st) λx o e two=> ?_
 by_cases z:x=br
 ·subst z
  simp only[if_true]at e
  rw[e']at e;cases e
  have:=two _ _ _ rfl
  omega
 ·simpa [z]using e
theorem FinAt.bw{br:Addr}{kd t:Nat}{G:Addr->Prop}(L:FinAt a H S w r0 r0' rows rows' n n' cs outs outs' z pk hl t0 t1 R R' ra ra')(hbr:BroomAt a H br kd t)(gB:∀ x,G x->S.B x/\x≠S.pd/\∀ xs,H x≠some (.tup xs)):(∀ x xs,G x\/x=br->H x≠some (.tup xs))/\(∀ x xs,G x\/x=br->¬ S.B x->H x≠some (.lst xs))/\¬ (G S.pd\/S.pd=br):=by
 obtain⟨C,dx,fs,e',l1⟩:=hbr.few
 refine⟨λx xs f e=> ?_,λx xs f nf e=> ?_,λf=> ?_⟩
 ·rcases f with f | f
  ·exact(gB x f).2.2 _ e
  ·rw[f,e']at e;cases e
 ·rcases f with f | f
  ·exact nf (gB x f).1
  ·rw[f,e']at e;cases e
 ·rcases f with f | f
  ·exact(gB _ f).2.1 rfl
  ·obtain⟨d,e,kvs,hd,_⟩:=L.pl
   rw[f,e']at e
   cases e
   rcases hd with e | ⟨o,e⟩<;>cases e
theorem FinAt.wpd(L:FinAt a H S w r0 r0' rows rows' n n' cs outs outs' z pk hl t0 t1 R R' ra ra'):¬ S.A.W S.pd/\¬ S.A'.W S.pd:=L.ap.w S.pd (.inr (.inr (.inr (.inr (.inr (.inr rfl))))))
theorem FinAt.sw0{br:Addr}{kd t:Nat}(L:FinAt a H S w r0 r0' rows rows' n n' cs outs outs' z pk hl t0 t1 R R' ra ra')(hbr:BroomAt a H br kd t)(B:AY a H' S.A w rA nA cs oA)(h:HoldOk H' r0 rA cs oA)(s:SameBut (λx=>S.A.W x\/x=br) H H'):FinAt a H' S w r0 r0' rA rows' nA n' cs oA outs' z pk hl t0 t1 R R' ra ra':=by
 obtain⟨g1,g2,g3⟩:=L.bw (G:=S.A.W) hbr λx f=>⟨.inl f,λe=>L.wpd.1 (e ▸ f),E7 L.b0 f⟩
 exact L.up B (L.b1.farB L.b0 (λx f f'=>L.ap.h x f' f) hbr s) h L.h1.at s g1 g2 g3
theorem FinAt.sw1{br:Addr}{kd t:Nat}(L:FinAt a H S w r0 r0' rows rows' n n' cs outs outs' z pk hl t0 t1 R R' ra ra')(hbr:BroomAt a H br kd t)(B:AY a H' S.A' w rB nB cs oB)(h:HoldOk H' r0' rB cs oB)(s:SameBut (λx=>S.A'.W x\/x=br) H H'):FinAt a H' S w r0 r0' rows rB n nB cs outs oB z pk hl t0 t1 R R' ra ra':=by
 obtain⟨g1,g2,g3⟩:=L.bw (G:=S.A'.W) hbr λx f=>⟨.inr (.inl f),λe=>L.wpd.2 (e ▸ f),E7 L.b1 f⟩
 exact L.up (L.b0.farB L.b1 L.ap.h hbr s) B L.h0.at h s g1 g2 g3
theorem eV{cs:List Ch}{outs:Int->Bool}(h:HoldOk H r0 rows cs outs)(wn:BI cs.length outs=[])(wd:∀ r∈rows,r.length=w)(inn:∀ c∈cs,c.blk<r0.length/\c.cell<w)(g0:good7 H r0)(gc:∀ c∈cs,GoodV 7 H c.val):good7 H rows:=λr hr v hv=>by
 obtain⟨b,hb⟩:=EM hr
 obtain⟨j,hj⟩:=EM hv
 have ec:DI rows b j=some v:=by
  unfold DI
  rw[hb];exact hj
 obtain⟨c1,c2⟩:=TR h wn wd inn b j
 cases e:CA cs b j with
 | none =>
  rw[c1 e]at ec
  unfold DI at ec
  cases e2:r0[b]? with
  | none=>rw[e2]at ec;cases ec
  | some r' =>
   rw[e2]at ec
   exact g0 r' (List.mem_of_getElem? e2) v (List.mem_of_getElem? ec)
 | some k =>
  obtain⟨c0,e0,_,_⟩:=HM e
  have:DH cs b j=some c0.val:=by
   unfold DH
   rw[e]
   show(cs[k]?).map _=_
   rw[e0];rfl
  rw[(c2 _ this).1]at ec
  cases ec
  exact gc c0 (List.mem_of_getElem? e0)
theorem eX{s sl:Addr}{first:Int}{y7 y8:Option V}(TT:D8 K a)(L:FinAt a H S w r0 r0' rows rows' n n' cs outs outs' z pk hl t0 t1 R R' ra ra')(w0:BI cs.length outs=[])(w1:BI cs.length outs'=[])(hc:cs.length<=90)(q:∀ H',Q (.bl true) H') :
  AL (JP K a (λ_=>E) (λ_=>E)) (JQ K a (λ_=>E) (λ_=>E)) (A7 Q) [some (.ref s),some (.int first),some (.ref z),some (.ref pk),some (.ref hl),some (.ref sl),some (.ref S.pd),y7,y8] H:=by
 obtain⟨dx,hob⟩:=L.b0.bk.ob
 push_cast[↓yM]
 refine BD (SqL.of L.hhl) (n:=0) rfl rfl ⟨S.A.b,rfl,_,_,hob,CO (by decide +kernel),S.A,w,rows,n,cs,outs,rfl,TT.1,L.b0,λwl H1 hwl s1 ewl=>⟨by decide,λe0 he0=> ?_⟩⟩
 have s2:=AX (o:=.lst []) he0
 have ee0:upd H1 e0 (.lst []) e0=some (.lst []):=AK
 revert s2 ee0
 generalize upd H1 e0 (.lst [])=H2
 intro s2 ee0
 refine eU (s2 _ _ ewl) ee0 ?_
 rw[w0]
 push_cast[]
 have L2:=L.same (s1.trans s2)
 clear L
 obtain⟨dx',hob'⟩:=L2.b1.bk.ob
 refine BD (SqL.of L2.hhl) (n:=1) rfl rfl ⟨S.A'.b,rfl,_,_,hob',CO (by decide +kernel),S.A',w,rows',n',cs,outs',rfl,TT.1,L2.b1,λwl' H3 hwl' s3 ewl'=>⟨by decide,λe1 he1=> ?_⟩⟩
 have s4:=AX (o:=.lst []) he1
 have ee1:upd H3 e1 (.lst []) e1=some (.lst []):=AK
 revert s4 ee1
 generalize upd H3 e1 (.lst [])=H4
 intro s4 ee1
 refine eU (s4 _ _ ewl') ee1 ?_
 rw[w1]
 refine⟨false,rfl,C3 (by decide) ?_⟩
 have L4:=L2.same (s3.trans s4)
 clear L2
 push_cast[↓yN]
 obtain⟨d,hd,pd⟩:=L4.pl
 obtain⟨z1,z2,z3,z4,z5⟩:=L4.sz
 have inn:∀ c∈cs,c.blk<r0.length/\c.cell<w:=λc hc=>⟨by rw[<-L4.h0.ba.1,<-L4.b0.nb];exact(L4.b0.bk.inn c hc).1,(L4.b0.bk.inn c hc).2⟩
 have ncl:S.A.cl∉ra:=λhm=>L4.nn _ (.inr (.inr (.inr (.inr (.inl hm))))) (.inl (.inl (.inr (.inr (.inr (.inr (.inr rfl)))))))
 have ngp:S.A.gp∉ra:=λhm=>L4.nn _ (.inr (.inr (.inr (.inr (.inl hm))))) (.inl (.inr rfl))
 have ncl':S.A'.cl∉ra':=λhm=>L4.nn _ (.inr (.inr (.inr (.inr (.inr hm))))) (.inr (.inl (.inl (.inr (.inr (.inr (.inr (.inr rfl))))))))
 have ngp':S.A'.gp∉ra':=λhm=>L4.nn _ (.inr (.inr (.inr (.inr (.inr hm))))) (.inr (.inl (.inr rfl)))
 refine BD (SqL.of L4.hpk) (n:=0) rfl rfl (BH L4.ht.1 (n:=0) rfl rfl (BD (SqL.of L4.hpk) (n:=0) rfl rfl (BH L4.ht.1 (n:=1) rfl rfl ?_)))
 refine⟨S.A.gp,S.A.cl,R,S.pd,ra,w,r0,rows,n,cs,outs,d,rfl,TT.2.1,L4.b0.pk,L4.rl.1,L4.h0,w0,hd,pd,inn,L4.wd.1,eV L4.h0 w0 L4.b0.pk.wd inn L4.gr.1 L4.gc,hc,by omega,ncl,ngp,λd5 H5 hd5 pd5 s5=>⟨true,rfl,E6 rfl ?_⟩⟩
 have lG:∀ x,x=S.pd\/x∈ra->CP (H4 x):=by
  rintro x (hx | hx)
  ·rw[hx,hd]
   obtain⟨kvs,hk,_⟩:=pd
   rcases hk with rfl | ⟨o,rfl⟩
   ·exact⟨λ_ z=>(by cases z),λ_ _ _ z=>(by cases z)⟩
   ·exact⟨λ_ z=>(by cases z),λ_ _ _ z=>(by cases z)⟩
  ·obtain⟨k,ek⟩:=EM hx
   obtain⟨r',_,hx'⟩:=FJ L4.rl.1.2.1 ek
   exact E3 hx'
 have tk:FI H4 H5:=λy xs e=>s5 _ _ e λf=>(lG _ f).1 _ e
 have nlp:∀ {x:Addr} {xs:List V},H4 x=some (.lst xs)->x≠S.pd:=λe z=>by
  rw[z,hd]at e
  obtain⟨kvs,hk,_⟩:=pd
  rcases hk with rfl | ⟨o,rfl⟩<;>cases e
 have hpk5:=s5 _ _ L4.hpk λf=>f.elim (nlp L4.hpk) L4.nr.1
 have ht5:=tk _ _ L4.ht.2
 have P5:=L4.b1.pk.sbL s5 lG λf=>f.elim (λe=>L4.wpd.2 (e ▸ .inl (.inr (.inr (.inr (.inr (.inr rfl))))))) λhm=>L4.nn _ (.inr (.inr (.inr (.inr (.inl hm))))) (.inr (.inl (.inl (.inr (.inr (.inr (.inr (.inr rfl))))))))
 have R5:GA H5 R' ra' r0':=⟨s5 _ _ L4.rl.2.1 λf=>f.elim (nlp L4.rl.2.1) L4.nr.2.1,HZ L4.rl.2.2.1 λx r hx e=>s5 _ _ e λf=>f.elim (nlp e) (L4.nr.2.2 x hx),L4.rl.2.2.2⟩
 refine BD (SqL.of hpk5) (n:=1) rfl rfl (BH ht5 (n:=0) rfl rfl (BD (SqL.of hpk5) (n:=1) rfl rfl (BH ht5 (n:=1) rfl rfl ?_)))
 have inn':∀ c∈cs,c.blk<r0'.length/\c.cell<w:=λc hc=>by rw[z3];exact inn c hc
 have g5:=eV L4.h1 w1 L4.b1.pk.wd inn' L4.gr.2 L4.gc
 exact⟨S.A'.gp,S.A'.cl,R',S.pd,ra',w,r0',rows',n',cs,outs',d5,rfl,TT.2.1,P5,R5,L4.h1.at,w1,hd5,pd5,inn',L4.wd.2,g5.keep tk,hc,by omega,ncl',ngp',λd6 H6 _ _ _=>q H6⟩
end
theorem SideAt.brm{F:Addr->Prop}{H':Hp}{sd L go br:Addr}{kd t w:Nat}{A:BA}{rows:List (List V)}{n:Nat}{cs cs':List Ch}{outs outs':Int->Bool}(h:SideAt F H sd L go cs outs)(B:AY a H A w rows n cs' outs')(hbr:BroomAt a H br kd t)(s:SameBut (λx=>A.W x\/x=br) H H')(fA:∀ x,A.W x->F x)(n1:¬ A.W sd)(n2:¬ A.W L)(n3:¬ A.W go):SideAt F H' sd L go cs outs:=by
 obtain⟨C,dx,fs,e',l1⟩:=hbr.few
 have k:∀ {x:Addr} {o:HO},H x=some o->¬ A.W x->(∀ C dx fs,o≠.ins C dx fs)->H' x=some o:=λe nf ni=>s _ _ e λf=>f.elim nf λz=>by
  rw[z,e']at e
  exact ni _ _ _ (Option.some.inj e).symm
 obtain⟨⟨kvs,hd,kc,ko⟩,⟨tl,hL,own⟩,⟨kvo,hg,r⟩⟩:=h
 refine⟨⟨kvs,k hd n1 (λ_ _ _ z=>by cases z),kc,ko⟩,⟨tl,k hL n2 (λ_ _ _ z=>by cases z),Paired.mapP own λt c ⟨pl,nl,ns,h1,h2,h3,h4,h5⟩=>⟨pl,nl,ns,k h1 (λf=>E7 B f _ h1) (λ_ _ _ z=>by cases z),k h2 (λf=>E7 B f _ h2) (λ_ _ _ z=>by cases z),k h3 (λf=>h4 (fA _ f)) (λ_ _ _ z=>by cases z),h4,h5⟩⟩,⟨kvo,k hg n3 (λ_ _ _ z=>by cases z),r⟩⟩
section
variable{S:WS}{w:Nat}{r0 r0' rows rows' rA rB:List (List V)}{n n' nA nB:Nat}{cs:List Ch}{outs outs' oA oB:Int->Bool}{z pk hl t0 t1 R R':Addr}{ra ra':List Addr}{H':Hp}
theorem Dx{s sl:Addr}{first:Int}{y7 y8:Option V}(TT:D8 K a)(L:FinAt a H S w r0 r0' rows rows' n n' cs outs outs' z pk hl t0 t1 R R' ra ra')(S1:SideAt S.B H S.sd' S.L' S.go' cs outs')(hsl:H sl=some (.lst [.ref S.sd,.ref S.sd']))(nsl:¬ S.B sl)(hc:cs.length<=90)(q:∀ H',Q (.bl true) H') :
  AL (L5 K a (λ_=>E) (λ_=>E)) (AL (L6 K a (λ_=>E) (λ_=>E)) (AL (JP K a (λ_=>E) (λ_=>E)) (JQ K a (λ_=>E) (λ_=>E)))) (A7 Q) [some (.ref s),some (.int first),some (.ref z),some (.ref pk),some (.ref hl),some (.ref sl),some (.ref S.pd),y7,y8] H:=by
 obtain⟨z1,z2,z3,z4,z5⟩:=L.sz
 have hrl:rows.length=r0.length:=L.h0.ba.1
 have hrl':rows'.length=r0.length:=by rw[L.h1.ba.1,z3]
 have inn:∀ c∈cs,c.blk<rows.length:=λc hc=>by rw[<-L.b0.nb];exact(L.b0.bk.inn c hc).1
 have inn':∀ c∈cs,c.blk<rows'.length:=λc hc=>by rw[<-L.b1.nb];exact(L.b1.bk.inn c hc).1
 have ap:=L.ap
 push_cast[↓yG,↓DA]
 have k0:=DP (c:=first) (p:=10151) (m:=3) (by decide)
 obtain⟨k,ek⟩:∃ k:Nat,BX first 10151 3=k:=⟨(BX first 10151 3).toNat,by omega⟩
 rw[ek]
 refine BD (SqL.of L.hhl) (n:=0) rfl rfl ⟨k,rfl,TT,λbr H1 hbr0 s1 hbr=> ?_⟩
 have L1:=L.same s1
 refine⟨br,min k 2,0,S.A,w,rows,n,cs,outs,rfl,TT,L1.b0,by omega,by omega,hc,hbr,by omega,λl N H2 sw hN hl0 el B2 br2 s2=> ?_⟩
 have L2:=L1.sw0 hbr B2 (TQ L.h0 (by omega) rfl inn N) s2
 have S2:=(S1.same s1).brm L1.b0 hbr s2 (λx f=>.inl f) (ap.w _ (.inr (.inl rfl))).1 (ap.w _ (.inr (.inr (.inr (.inl rfl))))).1 (ap.w _ (.inr (.inr (.inr (.inr (.inr (.inl rfl))))))).1
 have hsl2:H2 sl=some (.lst [.ref S.sd,.ref S.sd']):=s2 _ _ (s1 _ _ hsl) λf=>by
  rcases f with f | f
  ·exact nsl (.inl f)
  ·obtain⟨C,dx,fs,e',_⟩:=hbr.few
   have:=s1 _ _ hsl
   rw[f,e']at this;cases this
 have w2:=sw.2
 clear L L1 S1 hsl
 push_cast[↓yK,↓DA]
 by_cases h0:BX first 10159 2=0
 ·refine E6 h0 ?_
  push_cast[↓yH,↓DA]
  have k0':=DP (c:=first) (p:=10163) (m:=3) (by decide)
  obtain⟨k',ek'⟩:∃ k:Nat,BX first 10163 3=k:=⟨(BX first 10163 3).toNat,by omega⟩
  rw[ek']
  refine BD (SqL.of L2.hhl) (n:=1) rfl rfl ⟨k',rfl,TT,λbx H3 hbx0 s3 hbx=> ?_⟩
  have L3:=L2.same s3
  refine⟨bx,min k' 2,0,S.A',w,rows',n',cs,outs',rfl,TT,L3.b1,by omega,by omega,hc,hbx,by omega,λl' N' H4 sw' hN' hl0' el' B4 bx4 s4=> ?_⟩
  exact eX TT (L3.sw1 hbx B4 (TQ L3.h1 (by omega) rfl inn' N') s4) w2 sw'.2 hc q
 ·refine C3 h0 ?_
  push_cast[↓yJ]
  refine BD (SqL.of L2.hhl) (n:=1) rfl rfl (BD (SqL.of hsl2) (n:=1) rfl rfl (BH L2.hz (n:=0) rfl rfl ?_))
  push_cast[↓DA]
  have m0:(0:Int)<r0.length:=by omega
  have t0':=DP (c:=first) (p:=10169) m0
  obtain⟨t,et⟩:∃ k:Nat,BX first 10169 r0.length=k:=⟨(BX first 10169 r0.length).toNat,by omega⟩
  rw[et]
  refine⟨m0,BH L2.hz (n:=0) rfl rfl ?_⟩
  rw[<-hrl']
  have n1:=ap.s S.sd' (.inr rfl)
  have wL':=(ap.w S.L' (.inr (.inr (.inr (.inl rfl))))).2
  have wg':=(ap.w S.go' (.inr (.inr (.inr (.inr (.inr (.inl rfl))))))).2
  have bg':∀ x,x=S.go'->S.B x:=λx f=>.inr (.inr (.inr (.inr (.inr (.inl f)))))
  refine⟨S.A',w,r0',rows',n',cs,outs',t,S.sd',S.L',S.go',S.B,rfl,TT,L2.b1,L2.h1,hc,S2,λx f=>f.elim (λf=>.inr (.inl f)) (bg' x),λf=>n1 (.inr (.inl f)),wL',wg',λe=>n1 (bg' _ e),ap.l.2.2.2.2.1,by omega,by omega,λrows3 n3 outs3 H3 B3 h3 w3 s3=>⟨true,rfl,C3 (by decide) ?_⟩⟩
  obtain⟨kvo,hg,_⟩:=S2.g
  have lo:∀ x,x=S.go'->CP (H2 x):=λx hx=>hx ▸ JB hg
  have wg:=(ap.w S.go' (.inr (.inr (.inr (.inr (.inr (.inl rfl))))))).1
  refine eX TT (L2.up (L2.b0.far L2.b1 ap.h lo (λx hx=>hx ▸ wg) s3) B3 L2.h0.at h3 s3 (λx xs f=>f.elim (λf=>E7 L2.b1 f xs) λf=>(lo x f).1 xs) (λx xs f nf=>absurd (f.elim (λf=>.inr (.inl f)) (bg' x)) nf) (λf=>f.elim L2.wpd.2 ap.l.2.2.2.2.2.2.2.2.2)) w2 w3 hc q
end
theorem Dy{v:V}(g:GoodV 7 H v)(q:Q (.bl false) H):B8 K v v H Q:=by
 by_cases hs:CZ v v=true
 ·unfold B8
  rw[if_pos hs]
  simpa using q
 ·cases v with
  | ref p =>
   obtain⟨d,hd⟩:=eE (K:=K) g
   exact sN (n:=7) (by decide) hd hd q
  | int i=>exact absurd rfl hs
  | non=>exact absurd rfl hs
  | str z=>exact absurd rfl hs
  | _=>exact g.elim
section
variable{S:WS}{w:Nat}{r0 r0' rows rows' rA rB:List (List V)}{n n' nA nB:Nat}{cs:List Ch}{outs outs' oA oB:Int->Bool}{z pk hl t0 t1 R R':Addr}{ra ra':List Addr}{H':Hp}
theorem FinAt.lpd(L:FinAt a H S w r0 r0' rows rows' n n' cs outs outs' z pk hl t0 t1 R R' ra ra'):CP (H S.pd)/\∀ xs,H S.pd≠some (.lst xs):=by
 obtain⟨d,e,kvs,hk,_⟩:=L.pl
 rw[e]
 rcases hk with rfl | ⟨o,rfl⟩
 ·exact⟨⟨λ_ z=>(by cases z),λ_ _ _ z=>(by cases z)⟩,λ_ z=>(by cases z)⟩
 ·exact⟨⟨λ_ z=>(by cases z),λ_ _ _ z=>(by cases z)⟩,λ_ z=>(by cases z)⟩
theorem FinAt.frz{d':HO}(L:FinAt a H S w r0 r0' rows rows' n n' cs outs outs' z pk hl t0 t1 R R' ra ra')(s:SameBut (· =S.pd) H H')(e':H' S.pd=some d')(p':JL d' cs):FinAt a H' S w r0 r0' rows rows' n n' cs outs outs' z pk hl t0 t1 R R' ra ra':=by
 obtain⟨lo,nl⟩:=L.lpd
 have lo':∀ x,x=S.pd->CP (H x):=λx hx=>hx ▸ lo
 have tk:FI H H':=λy xs e=>s _ _ e λf=>(lo' _ f).1 _ e
 have li:∀ {x:Addr} {xs:List V},H x=some (.lst xs)->H' x=some (.lst xs):=λe=>s _ _ e λf=>by
  rw[f]at e;exact nl _ e
 refine⟨L.b0.sb s lo' (λx hx f=>L.wpd.1 (hx ▸ .inl f)),L.b1.sb s lo' (λx hx f=>L.wpd.2 (hx ▸ .inl f)),L.h0.at,L.h1.at,⟨d',e',p'⟩,⟨L.gr.1.keep tk,L.gr.2.keep tk⟩,λc hc=>(L.gc c hc).keep tk,L.ap,L.sz,tk _ _ L.hz,li L.hhl,li L.hpk,⟨tk _ _ L.ht.1,tk _ _ L.ht.2⟩,⟨⟨li L.rl.1.1,Paired.mapP L.rl.1.2.1 λx r e=>li e,L.rl.1.2.2⟩,⟨li L.rl.2.1,Paired.mapP L.rl.2.2.1 λx r e=>li e,L.rl.2.2.2⟩⟩,L.wd,L.nn,L.nr⟩
theorem Dz{kvs:List (List AN × V)}{k:List AN}{v:V}{m:Nat}(hv:∀ i j:Int,AZ kvs [.inl i,.inl j]=DH cs i j)(hkk:∀ p∈kvs,∃ i j:Int,p.1=[.inl i,.inl j])(ek:kvs[m]? =some (k,v)):∃ (i j:Nat) (c:Ch) (n0:Nat),k=[.inl (i:Int),.inl (j:Int)]/\CA cs i j=some n0/\cs[n0]? =some c/\c.blk=i/\c.cell=j/\AZ kvs k=some c.val:=by
 obtain⟨i',j',e⟩:=hkk _ (List.mem_of_getElem? ek)
 have e:k=[.inl i',.inl j']:=e
 subst e
 have hs:(AZ kvs [.inl i',.inl j']).isSome=true:=by
  rw[<-EV]
  exact List.any_eq_true.mpr ⟨_,List.mem_of_getElem? ek,by simp⟩
 have hs':=hs
 rw[hv]at hs
 unfold DH at hs
 cases e:CA cs i' j' with
 | none=>rw[e]at hs;cases hs
 | some n0 =>
  obtain⟨c,ec,eb,ej⟩:=HM e
  subst eb;subst ej
  refine⟨c.blk,c.cell,c,n0,rfl,e,ec,rfl,rfl,?_⟩
  rw[hv]
  unfold DH
  rw[e]
  show(cs[n0]?).map _=_
  rw[ec];rfl
theorem eY{s sl:Addr}{first:Int}{y7:Option V}{o:Obj}{kvs:List (List AN × V)}(TT:D8 K a)(L:FinAt a H S w r0 r0' rows rows' n n' cs outs outs' z pk hl t0 t1 R R' ra ra')(S1:SideAt S.B H S.sd' S.L' S.go' cs outs')(hsl:H sl=some (.lst [.ref S.sd,.ref S.sd']))(nsl:¬ S.B sl)(hc:cs.length<=90)(hd:H S.pd=some (.frz o (.dT kvs)))(hv:∀ i j:Int,AZ kvs [.inl i,.inl j]=DH cs i j)(hkk:∀ p∈kvs,∃ i j:Int,p.1=[.inl i,.inl j])(q:∀ H',Q (.bl true) H') :
  DE (FH S.pd o kvs) (AW 8) (S7 K a (λ_=>E) (λ_=>E)) { nx:=AL (L5 K a (λ_=>E) (λ_=>E)) (AL (L6 K a (λ_=>E) (λ_=>E)) (AL (JP K a (λ_=>E) (λ_=>E)) (JQ K a (λ_=>E) (λ_=>E)))) (A7 Q),rt:=Q } [some (.ref s),some (.int first),some (.ref z),some (.ref pk),some (.ref hl),some (.ref sl),some (.ref S.pd),y7,none] H:=by
 obtain⟨z1,z2,z3,z4,z5⟩:=L.sz
 have hrl:rows.length=r0.length:=L.h0.ba.1
 have hrl':rows'.length=r0.length:=by rw[L.h1.ba.1,z3]
 refine XJ (λm σ H'=>Same H H'/\∃ y8,σ=[some (.ref s),some (.int first),some (.ref z),some (.ref pk),some (.ref hl),some (.ref sl),some (.ref S.pd),y7,y8]) ⟨Same.refl _,_,rfl⟩ (λi σ H' _ ⟨s',_⟩=>s' _ _ hd) (λm b k v σ H1 ek eb ⟨s1,y8,eσ⟩=> ?_) (λσ H1 ⟨s1,y8,eσ⟩=> ?_)
 ·subst eσ
  obtain⟨i,j,c,n0,rfl,en,ec,eb',ej',ev⟩:=Dz hv hkk ek
  have eb:H1 b=some (.tup [.int i,.int j]):=eb
  have L1:=L.same s1
  have inn:=L1.b0.bk.inn c (List.mem_of_getElem? ec)
  have ib:i<rows.length:=by rw[<-eb',<-L1.b0.nb];exact inn.1
  have jb:j<w:=by rw[<-ej'];exact inn.2
  have on:D6 rows w i j:=⟨by omega,by omega,by omega,by omega⟩
  have on':D6 rows' w i j:=⟨by omega,by omega,by omega,by omega⟩
  have ih:∀ {rw:List (List V)},JF cs rw i j=some c.val:=λ{rw}=>by
   unfold JF
   rw[en]
   show(cs[n0]?).map _=_
   rw[ec];rfl
  have dg:∀ {H':Hp},H' S.pd=some (.frz o (.dT kvs))->H' b=some (.tup [.int i,.int j])->DGet H' S.pd (.ref b) (some c.val):=λe1 e2=>by
   rw[<-ev]
   exact .inr ⟨kvs,[.inl (i:Int),.inl (j:Int)],b,.inr ⟨o,e1⟩,rfl,e2,rfl⟩
  have gv:=L1.gc c (List.mem_of_getElem? ec)
  have hd1:=s1 _ _ hd
  obtain⟨dx,hob⟩:=L1.b0.bk.ob
  push_cast[↓yE]
  refine BD (SqL.of L1.hhl) (n:=0) rfl rfl ⟨_,rfl,_,_,hob,CO (by decide +kernel),S.A,w,rows,n,cs,outs,b,i,j,rfl,TT.1,TT.2.1,L1.b0,eb,λ_ v2 H2 ev2 s2=> ?_,λy=>absurd on y⟩
  rw[ih]at ev2
  cases ev2
  refine⟨_,dg (s2 _ _ hd1) (s2 _ _ eb),_,_,rfl,.inl ⟨rfl,(gv.keep s2.tk).up⟩,λH3 s3=>⟨true,rfl,C3 (by decide) ?_⟩⟩
  have s13:=s2.trans s3
  have L3:=L1.same s13
  obtain⟨dx',hob'⟩:=L3.b1.bk.ob
  refine BD (SqL.of L3.hhl) (n:=1) rfl rfl ⟨_,rfl,_,_,hob',CO (by decide +kernel),S.A',w,rows',n',cs,outs',b,i,j,rfl,TT.1,TT.2.1,L3.b1,s13 _ _ eb,λ_ v4 H4 ev4 s4=> ?_,λy=>absurd on' y⟩
  rw[ih]at ev4
  cases ev4
  have s14:=s13.trans s4
  refine⟨_,dg (s14 _ _ hd1) (s14 _ _ eb),?_⟩
  refine Dy (gv.keep s14.tk) ⟨false,rfl,C3 (by decide) ?_⟩
  exact s1.trans s14
 ·subst eσ
  exact Dx TT (L.same s1) (S1.same s1) (s1 _ _ hsl) nsl hc q
theorem Eb{s sl:Addr}{first:Int}{y7:Option V}(TT:D8 K a)(L:FinAt a H S w r0 r0' rows rows' n n' cs outs outs' z pk hl t0 t1 R R' ra ra')(S1:SideAt S.B H S.sd' S.L' S.go' cs outs')(hsl:H sl=some (.lst [.ref S.sd,.ref S.sd']))(nsl:¬ S.B sl)(hc:cs.length<=90)(q:∀ H',Q (.bl true) H') :
  AL (S8 K a (λ_=>E) (λ_=>E)) (AL (L5 K a (λ_=>E) (λ_=>E)) (AL (L6 K a (λ_=>E) (λ_=>E)) (AL (JP K a (λ_=>E) (λ_=>E)) (JQ K a (λ_=>E) (λ_=>E))))) (A7 Q) [some (.ref s),some (.int first),some (.ref z),some (.ref pk),some (.ref hl),some (.ref sl),some (.ref S.pd),y7,none] H:=by
 obtain⟨d,hd,kvs,hk,hv,hkl,hkk⟩:=L.pl
 push_cast[↓yF,↓P9]
 refine⟨kvs,?_⟩
 rcases hk with rfl | ⟨o,rfl⟩
 ·refine .inl ⟨hd,λo=> ?_⟩
  have s1:SameBut (· =S.pd) H (upd H S.pd (.frz o (.dT kvs))):=λy o e ny=>by rw[AI ny];exact e
  obtain⟨lo,nl⟩:=L.lpd
  have bp:∀ x,x=S.pd->S.B x:=λx f=>.inr (.inr (.inr (.inr (.inr (.inr f)))))
  obtain⟨l1,l2,l3,l4,l5,l6,l7,l8,l9,l10⟩:=L.ap.l
  exact eY TT (L.frz s1 AK ⟨kvs,.inr ⟨o,rfl⟩,hv,hkl,hkk⟩) (S1.sb s1 bp (λe=>L.ap.s S.sd' (.inr rfl) (bp _ e)) l8.symm l10.symm (λx hx=>(hx ▸ lo:CP (H x)).1)) (s1 _ _ hsl λe=>nsl (bp _ e)) nsl hc AK hv hkk q
 ·exact .inr ⟨o,hd,eY TT L S1 hsl nsl hc hd hv hkk q⟩
end
theorem Ec{trs:List (TE × TE)}{σ:St}:K4 trs σ H Q=(∀ p,H p=none->HC trs σ (upd H p (.dK [])) λps H2=>H2 p=some (.dK [])/\∃ kvs:List (AN × V),ps=kvs.map (λkv=>(kV kv.1,kv.2))/\kvs.length<=15/\Q (.ref p) (upd H2 p (.dK (FV [] kvs)))):=rfl
theorem Ed{σ:St}{QP:List (V × V)->Hp->Prop}:HC [] σ H QP=QP [] H:=rfl
theorem Eg{σ:St}{QP:List (V × V)->Hp->Prop}{tk tv:TE}{r:List (TE × TE)}:HC ((tk,tv)::r) σ H QP=tk σ H λx H1=>tv σ H1 λy H2=>HC r σ H2 λps H3=>QP ((x,y)::ps) H3:=rfl
theorem eZ{σ:St}(q:∀ (sd L go:Addr) (kv:List (AN × V)) (H':Hp),H sd=none->H L=none->H go=none->sd≠go->Same H H'->H' sd=some (.dK kv)->AZ kv (.inr "changes")=some (.ref L)->AZ kv (.inr "out")=some (.ref go)->H' L=some (.lst [])->H' go=some (.dK [])->Q (.ref sd) H'):K4 [((tC (.str "changes")),(C1 AE)),((tC (.str "out")),GP)] σ H Q:=by
 push_cast[↓Ec,↓Eg,↓Ed]
 refine λsd hsd=>⟨by decide,λL hL go hgo=> ?_⟩
 have n1:sd≠L:=AS AK hL
 have n2:L≠go:=AS AK hgo
 have n3:sd≠go:=AS (by rw[AI n1];exact AK) hgo
 have fL:H L=none:=(AX hsd).free hL
 have fg:H go=none:=((AX hsd).trans (AX hL)).free hgo
 refine⟨by rw[AI n3,AI n1,AK],[(.inr "changes",.ref L),(.inr "out",.ref go)],rfl,by simp,?_⟩
 have hv:AZ (FV [] [(.inr "changes",.ref L),(.inr "out",.ref go)]:List (AN × V)) (.inr "changes")=some (.ref L)/\AZ (FV [] [(.inr "changes",.ref L),(.inr "out",.ref go)]:List (AN × V)) (.inr "out")=some (.ref go):=by
  simp only[FV,List.foldl_cons,List.foldl_nil]
  refine⟨?_,?_⟩<;>repeat (rw[M3];first | rw[if_pos rfl] | rw[if_neg (by decide +kernel)])
 refine q sd L go _ _ hsd fL fg n3 (λy o e=> ?_) AK hv.1 hv.2 ?_ ?_
 ·rw[AI (AS e hsd),AI (AS e fg),AI (AS e fL),AI (AS e hsd)];exact e
 ·rw[AI n1.symm,AI n2,AK]
 ·rw[AI n3.symm,AK]
theorem Eh(ns:List Int)(k:Int):∃ ms:List Int,FQ (ns.map V.int) (some 2) (some k)=ms.map V.int/\ms.length<=ns.length:=by
 unfold FQ
 rw[<-List.map_drop,<-List.map_take]
 refine⟨_,rfl,?_⟩
 simp[HT.sIx]
 omega
structure Ej(a:Ad)(H:Hp)(S:WS)(w:Nat)(r0 r0':List (List V))(m:Nat)(rows rows':List (List V))(n n':Nat)(cs:List Ch)(outs outs':Int->Bool)(H':Hp):Prop where
 i:W26 a H' S w r0 r0' rows rows' n n' cs outs outs'
 l:cs.length<=m
 d:∃ kvs,H' S.pd=some (.dT kvs)
 s:SameBut S.B H H'
theorem Ek (h:QS K a vs H Q E):S9 K a (λ_=>E) (A7 Q) (A5 ["script","first","size","planks","holds","sides","places","cell","place"] vs) H:=by
  obtain⟨s,ns,rfl,TT,hs,hl,q⟩:=h
  have TT':=TT
  obtain⟨T,TP,X⟩:=TT
  push_cast[S9,↓xZ,↓x4,↓DA,↓YE]
  refine⟨ns,0,rfl,hs,by omega,by decide,λz hz0=> ?_⟩
  generalize HN ns 0=first
  have p1:=DP (c:=first) (p:=10139) (m:=8) (by decide)
  have p2:=E4 (c:=first) (p:=10139) (m:=8) (by decide)
  have p3:=DP (c:=first) (p:=10141) (m:=5) (by decide)
  have p4:=E4 (c:=first) (p:=10141) (m:=5) (by decide)
  obtain⟨m,em⟩:∃ m:Nat,1+BX first 10139 8=m:=⟨(1+BX first 10139 8).toNat,by omega⟩
  obtain⟨w,ew⟩:∃ w:Nat,1+BX first 10141 5=w:=⟨(1+BX first 10141 5).toNat,by omega⟩
  rw[em,ew]
  have hm:1<=m/\m<=8:=by omega
  have hw:1<=w/\w<=5:=by omega
  have s0:=AX (o:=.tup [.int m,.int w]) hz0
  have ez:upd H z (.tup [.int m,.int w]) z=some (.tup [.int m,.int w]):=AK
  revert s0 ez
  generalize upd H z (.tup [.int m,.int w])=H0
  intro s0 ez
  have hs0:=s0.seq hs
  push_cast[↓x5,↓YE]
  refine⟨ns,1,rfl,hs0,by omega,_,z,m,w,rfl,TP,ez,hm.1,hm.2,hw.1,hw.2,λt0 gp cl R ra r0 n0 H1 s1 et0 P1 RL1 g1 hr0 hn0 hgp hcl hR hra nRc=> ?_⟩
  refine⟨ns,1,rfl,s1.seq hs0,by omega,_,z,m,w,rfl,TP,s1 _ _ ez,hm.1,hm.2,hw.1,hw.2,λt1 gp' cl' R' ra' r0' n0' H2 s2 et1 P2 RL2 g2 hr0' hn0' hgp' hcl' hR' hra' nRc'=>⟨by decide,λpk hpk=> ?_⟩⟩
  have s3:=AX (o:=.lst [.ref t0,.ref t1]) hpk
  have epk:upd H2 pk (.lst [.ref t0,.ref t1]) pk=some (.lst [.ref t0,.ref t1]):=AK
  revert s3 epk
  generalize upd H2 pk (.lst [.ref t0,.ref t1])=H3
  intro s3 epk
  push_cast[↓x6]
  have s13:=s2.trans s3
  have P3:=P1.same s13
  have P3':=P2.same s3
  refine BD (SqL.of epk) (n:=0) rfl rfl (BH (s13 _ _ et0) (n:=0) rfl rfl (eA T TP P3 λA H4 eg ec fr B4 s4=> ?_))
  have P4':=P3'.same s4
  refine BD (SqL.of (s4 _ _ epk)) (n:=1) rfl rfl (BH (s4 _ _ (s3 _ _ et1)) (n:=0) rfl rfl (eA T TP P4' λA' H5 eg' ec' fr' B5 s5=>⟨by decide,λhl5 hhl=> ?_⟩))
  have s6:=AX (o:=.lst [.ref A.b,.ref A'.b]) hhl
  have ehl:upd H5 hl5 (.lst [.ref A.b,.ref A'.b]) hl5=some (.lst [.ref A.b,.ref A'.b]):=AK
  revert s6 ehl
  generalize upd H5 hl5 (.lst [.ref A.b,.ref A'.b])=H6
  intro s6 ehl
  push_cast[↓x8,↓x9]
  refine eZ λsd L go kv H7 hsd hL hgo n3 s7 esd v1 v2 eL ego=> ?_
  refine eZ λsd' L' go' kv' H8 hsd' hL' hgo' n3' s8 esd' v1' v2' eL' ego'=>⟨by decide,λsl hsl pd hpd=> ?_⟩
  have nsp:sl≠pd:=AS AK hpd
  have hpd8:H8 pd=none:=(AX hsl).free hpd
  have s9:=(AX (o:=.lst [.ref sd,.ref sd']) hsl).trans (AX (o:=.dT []) hpd)
  have esl:upd (upd H8 sl (.lst [.ref sd,.ref sd'])) pd (.dT []) sl=some (.lst [.ref sd,.ref sd']):=by rw[AI nsp,AK]
  have epd:upd (upd H8 sl (.lst [.ref sd,.ref sd'])) pd (.dT []) pd=some (.dT []):=AK
  revert s9 esl epd
  generalize upd (upd H8 sl (.lst [.ref sd,.ref sd'])) pd (.dT [])=H9
  intro s9 esl epd
  clear hpd
  have s79:=s8.trans s9
  have s69:=s7.trans s79
  have s39:=((s4.trans s5).trans s6).trans s69
  have s36:=(s4.trans s5).trans s6
  have B9:=(B4.same s5).same (s6.trans s69)
  have B9':=B5.same (s6.trans s69)
  obtain⟨tc,ecl,_⟩:=P1.ls
  obtain⟨dgp,egp⟩:=P1.ob
  obtain⟨tc',ecl',_⟩:=P2.ls
  obtain⟨dgp',egp'⟩:=P2.ob
  have off:∀ {x:Addr},H6 x=none->¬ A.W x/\¬ A'.W x:=λhx=>⟨λf=>HY B4 ((s5.trans s6).free hx) f,λf=>HY B5 (s6.free hx) f⟩
  have al:∀ {x:Addr} {xs:List V},H3 x=some (.lst xs)->x≠cl->x≠cl'->¬ A.W x/\¬ A'.W x:=λ{x xs} e nc nc'=>by
    constructor
    · rintro (f | f)
      · rcases fr x _ e with y | y
        ·exact nc y
        ·exact y f
      ·rw[f,eg,s13 _ _ egp]at e;cases e
    · rintro (f | f)
      · rcases fr' x _ (s4 _ _ e)with y | y
        ·exact nc' y
        ·exact y f
      ·rw[f,eg',s3 _ _ egp']at e;cases e
  have ngp:gp≠gp':=AS egp hgp'
  have ncl:cl≠cl':=AS ecl hcl'
  have dW:∀ x,A.W x->¬ A'.W x:=λx f f'=>by
    cases e:H4 x with
    | none=>exact HY B4 e f
    | some o =>
      rcases f' with f' | f'
      · rcases fr' x o e with y | y
        · subst y
          rcases f with f | f
          · rcases fr _ _ (s3 _ _ ecl')with y | y
            ·exact ncl y.symm
            ·exact y f
          · have e2:=s3 _ _ ecl'
            rw[f,eg,s13 _ _ egp]at e2;cases e2
        ·exact y f'
      · rw[eg']at f'
        rcases f with f | f
        ·exact(B4.loose f).2 _ _ _ (f' ▸ s4 _ _ (s3 _ _ egp'))
        · rw[eg]at f
          exact ngp (f.symm.trans f')
  have eL9:=s79 _ _ eL
  have ego9:=s79 _ _ ego
  have esd9:=s79 _ _ esd
  have eL9':=s9 _ _ eL'
  have ego9':=s9 _ _ ego'
  have esd9':=s9 _ _ esd'
  have fL':=s7.free hL'
  have fgo':=s7.free hgo'
  have fsd':=s7.free hsd'
  have fpd:=(s7.trans s8).free hpd8
  have fsl:=(s7.trans s8).free hsl
  obtain⟨S,hS⟩:∃ S:WS,S=⟨A,A',sd,sd',L,L',go,go',pd⟩:=⟨_,rfl⟩
  have nB:∀ {x:Addr},¬ A.W x/\¬ A'.W x->x≠L->x≠L'->x≠go->x≠go'->x≠pd->¬ S.B x:=λh a1 a2 a3 a4 a5 f=>by
    subst hS
    rcases f with f | f | f | f | f | f | f
    ·exact h.1 f
    ·exact h.2 f
    ·exact a1 f
    ·exact a2 f
    ·exact a3 f
    ·exact a4 f
    ·exact a5 f
  have dK_T:∀ {x y:Addr} {k:List (AN × V)} {l:List (List AN × V)},H9 x=some (.dK k)->H9 y=some (.dT l)->x≠y:=λe1 e2=>A3 e1 e2 (by intro z;cases z)
  have dK_L:∀ {x y:Addr} {k:List (AN × V)} {l:List V},H9 x=some (.dK k)->H9 y=some (.lst l)->x≠y:=λe1 e2=>A3 e1 e2 (by intro z;cases z)
  have dT_L:∀ {x y:Addr} {k:List (List AN × V)} {l:List V},H9 x=some (.dT k)->H9 y=some (.lst l)->x≠y:=λe1 e2=>A3 e1 e2 (by intro z;cases z)
  have nLL:L≠L':=AS eL hL'
  have ngg:go≠go':=AS ego hgo'
  have ap:S.Ap:=by
    refine hS ▸ ⟨dW,λx hx=> ?_,⟨nLL,(dK_L ego9 eL9).symm,(dK_L ego9' eL9).symm,(dK_L ego9 eL9').symm,(dK_L ego9' eL9').symm,ngg,dT_L epd eL9,dT_L epd eL9',(dK_T ego9 epd).symm,(dK_T ego9' epd).symm⟩,λx hx=> ?_⟩
    · rcases hx with rfl | rfl | rfl | rfl | rfl | rfl | rfl
      ·exact off hsd
      ·exact off fsd'
      ·exact off hL
      ·exact off fL'
      ·exact off hgo
      ·exact off fgo'
      ·exact off fpd
    · rcases hx with rfl | rfl
      ·exact hS ▸ nB (off hsd) (dK_L esd9 eL9) (dK_L esd9 eL9') n3 (AS esd hgo') (dK_T esd9 epd)
      ·exact hS ▸ nB (off fsd') (dK_L esd9' eL9) (dK_L esd9' eL9') (AS ego hsd').symm n3' (dK_T esd9' epd)
  have nl:∀ {x:Addr} {xs:List V},H3 x=some (.lst xs)->x≠cl->x≠cl'->¬ S.B x:=λe nc nc'=>nB (al e nc nc') (AS (s36 _ _ e) hL) (AS (s36 _ _ e) fL') (AS (s36 _ _ e) hgo) (AS (s36 _ _ e) fgo') (AS (s36 _ _ e) fpd)
  have ra1:∀ x∈ra,∃ r,H1 x=some (.lst r):=λx hx=>by
    obtain⟨k,ek⟩:=EM hx
    obtain⟨r',_,hx'⟩:=FJ RL1.2.1 ek
    exact⟨r',hx'⟩
  have ra2:∀ x∈ra',∃ r,H2 x=some (.lst r):=λx hx=>by
    obtain⟨k,ek⟩:=EM hx
    obtain⟨r',_,hx'⟩:=FJ RL2.2.1 ek
    exact⟨r',hx'⟩
  have nhl:¬ S.B hl5:=nB ⟨λf=>HY B4 (s5.free hhl) f,λf=>HY B5 hhl f⟩ (AS ehl hL) (AS ehl fL') (AS ehl hgo) (AS ehl fgo') (AS ehl fpd)
  have nsl:¬ S.B sl:=nB (off fsl) (AS (s8 _ _ eL) hsl).symm (AS eL' hsl).symm (AS (s8 _ _ ego) hsl).symm (AS ego' hsl).symm nsp
  have nn:∀ x,x=hl5\/x=pk\/x=R\/x=R'\/x∈ra\/x∈ra'->¬ S.B x:=by
    rintro x (rfl | rfl | rfl | rfl | hx | hx)
    ·exact nhl
    ·exact nl epk (AS (s2 _ _ ecl) hpk).symm (AS ecl' hpk).symm
    ·exact nl (s13 _ _ RL1.1) nRc (AS RL1.1 hcl')
    ·exact nl (s3 _ _ RL2.1) (AS ecl hR').symm nRc'
    · obtain⟨r,e⟩:=ra1 x hx
      exact nl (s13 _ _ e) (hra x hx).2 (AS e hcl')
    · obtain⟨r,e⟩:=ra2 x hx
      exact nl (s3 _ _ e) (AS ecl (hra' x hx).1).symm (hra' x hx).2
  have nr:pk∉ra/\R'∉ra/\∀ x∈ra',x∉ra:=by
    refine⟨λh=> ?_,λh=> ?_,λx hx h=> ?_⟩
    · obtain⟨r,e⟩:=ra1 _ h
      rw[s2 _ _ e]at hpk;cases hpk
    · obtain⟨r,e⟩:=ra1 _ h
      rw[e]at hR';cases hR'
    · obtain⟨r,e⟩:=ra1 _ h
      rw[(hra' x hx).1]at e;cases e
  have s19:=s13.trans s39
  have s29:=s3.trans s39
  have ho:∀ {r:List (List V)},HoldOk H9 r r [] (λ_=>false):=λ{r}=>⟨λk c e=>by simp at e,λb row e=>rfl,rfl,λ_ _ _=>rfl⟩
  have sa:∀ {sd L go:Addr} {kv:List (AN × V)},H9 sd=some (.dK kv)->AZ kv (.inr "changes")=some (.ref L)->AZ kv (.inr "out")=some (.ref go)->H9 L=some (.lst [])->H9 go=some (.dK [])->SideAt S.B H9 sd L go [] (λ_=>false):=λe1 e2 e3 e4 e5=>⟨⟨_,e1,e2,e3⟩,⟨[],e4,.nil⟩,⟨[],e5,λ_=>rfl,List.nodup_nil,λp hp=>by cases hp⟩⟩
  have I9:W26 a H9 S w r0 r0' r0 r0' n0 n0' [] (λ_=>false) (λ_=>false):=by
    subst hS
    exact⟨B9,B9',sa esd9 v1 v2 eL9 ego9,sa esd9' v1' v2' eL9' ego9',ho,ho,⟨_,epd,[],.inl rfl,λ_ _=>rfl,Nat.le_refl _,λp hp=>by cases hp⟩,⟨g1.keep s19.tk,g2.keep s29.tk⟩,λc hc=>(by cases hc),ap,by omega,by omega,by omega,hw.1,hw.2⟩
  have pd9:H9 S.pd=some (.dT []):=by subst hS;exact epd
  have esl9:H9 sl=some (.lst [.ref S.sd,.ref S.sd']):=by subst hS;exact esl
  have s09:=s1.trans (s2.trans s29)
  have F9:FinAt a H9 S w r0 r0' r0 r0' n0 n0' [] (λ_=>false) (λ_=>false) z pk hl5 t0 t1 R R' ra ra':=by
    refine⟨I9.b0,I9.b1,I9.h0,I9.h1,I9.pl,I9.gr,I9.gc,ap,I9.sz,by rw[hr0];exact s09 _ _ ez,?_,s39 _ _ epk,?_,⟨⟨s19 _ _ RL1.1,Paired.mapP RL1.2.1 λx r e=>s19 _ _ e,RL1.2.2⟩,⟨s29 _ _ RL2.1,Paired.mapP RL2.2.1 λx r e=>s29 _ _ e,RL2.2.2⟩⟩,⟨P1.wd,P2.wd⟩,nn,nr⟩
    ·subst hS;exact s69 _ _ ehl
    · subst hS
      rw[eg,eg']
      exact⟨s19 _ _ et0,s29 _ _ et1⟩
  have epd':pd=S.pd:=by subst hS;rfl
  rw[epd']
  have hs9:=s09.seq hs0
  clear nl nn nr ap al off dW sa ho nB
  clear hS
  push_cast[↓yC]
  refine tK hs9 λq0 hq0=> ?_
  obtain⟨ms,ems,hms⟩:=Eh ns 102
  rw[ems]
  have s10:=AX (o:=.lst (ms.map V.int)) hq0
  have e10:upd H9 q0 (.lst (ms.map V.int)) q0=some (.lst (ms.map V.int)):=AK
  have nB0:¬ S.B q0:=λf=>(I9.there f).1 hq0
  have I10:=I9.same s10
  have F10:=F9.same s10
  have pd10:=s10 _ _ pd9
  have sl10:=s10 _ _ esl9
  revert e10 I10 F10 pd10 sl10
  generalize upd H9 q0 (.lst (ms.map V.int))=H10
  intro e10 I10 F10 pd10 sl10
  refine⟨q0,rfl,.inl ⟨⟨_,SqL.of e10⟩,GU (xs:=ms.map V.int) (λi σ H'=>(∃ rows rows' n n' cs outs outs',Ej a H10 S w r0 r0' i rows rows' n n' cs outs outs' H')/\∃ y7,σ=[some (.ref s),some (.int first),some (.ref z),some (.ref pk),some (.ref hl5),some (.ref sl),some (.ref S.pd),y7,none]) ⟨⟨_,_,_,_,_,_,_,I10,Nat.le_refl _,⟨_,pd10⟩,SameBut.refl _⟩,_,rfl⟩ (λi σ H' _ ⟨⟨_,_,_,_,_,_,_,J⟩,_⟩=>SqL.of (J.s _ _ e10 nB0)) (λi v σ H' hx ⟨⟨rows,rows',n,n',cs,outs,outs',J⟩,y7,eσ⟩=> ?_) (λσ H' ⟨⟨rows,rows',n,n',cs,outs,outs',J⟩,y7,eσ⟩=> ?_)⟩⟩
  · subst eσ
    have hi:=(List.getElem?_eq_some_iff.mp hx).1
    rw[List.length_map]at hi
    obtain⟨cell,_,rfl⟩:=List.mem_map.mp (List.mem_of_getElem? hx)
    have tk:∀ {y:Addr} {xs:List V},H10 y=some (.tup xs)->H' y=some (.tup xs):=λe=>J.s _ _ e λf=>(I10.there f).2 _ e
    have jl:=J.l
    push_cast[↓yB]
    refine⟨hl5,sl,z,cell,S,w,r0,r0',rows,rows',n,n',cs,outs,outs',rfl,TT',J.i,by omega,J.d,tk F10.hz,J.s _ _ F10.hhl nhl,J.s _ _ sl10 nsl,nhl,nsl,λrows2 rows2' m m' ch outs2 outs2' H2 I2 d2 s2=>⟨true,rfl,C3 (by decide) ?_⟩⟩
    exact⟨rows2,rows2',m,m',_,outs2,outs2',I2,by simp;omega,d2,J.s.trans s2⟩
  · subst eσ
    rw[List.length_map]at J
    have jl:=J.l
    have tk:FI H10 H':=λy xs e=>J.s _ _ e λf=>(I10.there f).2 _ e
    have li:∀ {y:Addr} {xs:List V},H10 y=some (.lst xs)->¬ S.B y->H' y=some (.lst xs):=λe nf=>J.s _ _ e nf
    refine Eb TT' (L:=⟨J.i.b0,J.i.b1,J.i.h0,J.i.h1,J.i.pl,J.i.gr,J.i.gc,J.i.ap,J.i.sz,tk _ _ F10.hz,li F10.hhl nhl,li F10.hpk (F10.nn _ (.inr (.inl rfl))),⟨tk _ _ F10.ht.1,tk _ _ F10.ht.2⟩,⟨⟨li F10.rl.1.1 (F10.nn _ (.inr (.inr (.inl rfl)))),HZ F10.rl.1.2.1 λx r hx e=>li e (F10.nn _ (.inr (.inr (.inr (.inr (.inl hx)))))),F10.rl.1.2.2⟩,⟨li F10.rl.2.1 (F10.nn _ (.inr (.inr (.inr (.inl rfl))))),HZ F10.rl.2.2.1 λx r hx e=>li e (F10.nn _ (.inr (.inr (.inr (.inr (.inr hx)))))),F10.rl.2.2.2⟩⟩,F10.wd,F10.nn,F10.nr⟩) J.i.s1 (J.s _ _ sl10 nsl) nsl (by omega) q
theorem El(h:QS K a vs H Q E):vs.length=1:=by
 obtain⟨_,_,rfl,_⟩:=h
 rfl
end
end L2
namespace L2
def top(i:Nat):Stmt:=PySem.Challenge.pw_holdback_k26_whole_one_plank_at_last.main.body.getD i (.Pass ⟨0,0,0,0⟩)
structure Txt(K:W.Frag)(mg:Str->Option Value)(a:Ad):Prop where
 fT:Cls K (a "Broom")
 Kq:Cls K (a "Change")
 fU:Cls K (a "Fullest")
 CM:Cls K (a "Hold")
 EO:Cls K (a "Plank")
 UD:Cls K (a "Round")
 Kv:NR K mg (a "Broom") "Broom"
 Kw:NR K mg (a "Fullest") "Fullest"
 UE:mg "NoBlock"=some (.ref (a "NoBlock"))
 Lj:GV mg "NoBlock" (.ref (a "NoBlock"))
 UF:Exc K (a "NoBlock")
 Kx:mg "NoChange"=some (.ref (a "NoChange"))
 Lk:GV mg "NoChange" (.ref (a "NoChange"))
 Ky:Exc K (a "NoChange")
 Kk:mg "bool"=none
 Kl:mg "dict"=none
 fP:mg "int"=none
 G2:mg "isinstance"=none
 DR:mg "len"=none
 GG:mg "list"=none
 Km:mg "max"=none
 D9:mg "range"=none
 fQ:mg "set"=none
 fR:mg "sorted"=none
 fS:mg "str"=none
 MD:mg "tuple"=none
 Kp:mg "zip"=none
section
variable(P:Program)(w:World){K:W.Frag}{mg:Str->Option Value}(base:Heap){a:Ad}{f:Addr}{fd:FuncData}
seal wpAny
abbrev JS:Stmt:=CN (top 4) 0
theorem Em:FnScope ["self"] ["self"] (AO JS):=.go
theorem Ep(T:Txt K mg a)(F:Fun K "__init__" "Round.__init__" JS f fd)  :
  FP P w K mg base 1 f fd ["self"] (LW K a) :=
 F.okF (QT K a) Em Bc Bb λ_ _ _ _ _ E hr hx=>(AQ (EG (AB 0) AJ rfl))
abbrev JT:Stmt:=CN (top 11) 0
theorem Ev:FnScope ["self","place","value","needs"] ["self","place","value","needs"] (AO JT):=.go
theorem Ew(T:Txt K mg a)(F:Fun K "__init__" "Change.__init__" JT f fd)  :
  FP P w K mg base 1 f fd ["self","place","value","needs"] (LO K a) :=
 F.okF (QU K a) Ev zD zC λ_ _ _ _ _ E hr hx=>(AR (EG (AB 0) (AB 1) rfl)
   (AR (EG (AB 0) (AB 2) rfl)
   (AQ (EG (AB 0) (AB 3) rfl))))
abbrev IA:Stmt:=CN (top 12) 4
theorem Ex:FnScope ["self"] ["self"] (AO IA):=.go
theorem Ey(T:Txt K mg a)(F:Fun K "waiting" "Book.waiting" IA f fd)  :
  FP P w K mg base 1 f fd ["self"] (EC K a) :=
 F.okF (QV K a) Ex zP zO λ_ _ _ _ _ E hr hx=>(AQ (A4 (K7 (tn:=["number"]) (cn:=["self"]) (cap:=[0]) (IU (outer:=AO IA) (N:=["self"]) rfl rfl (by decide +kernel)) rfl (D0 rfl T.D9 (AD (CI DV rfl T.DR (by rfl) (AD (BN (AB 0) rfl) AG)) AG)) (λ_ _ _ _ _ _=>(GJ (i:=0) (show(["number","self"]:List Str).Nodup from by decide +kernel) rfl (Or.inl rfl))) (λ_ _ _ _ _ _=>(kK (GH (IP (CF hr) (AB 0) (BN (AB 1) rfl)) (by with_unfolding_all rfl)))) (λ_ _ _ _ _ _=>(AB 0)))))
abbrev JU:Stmt:=CN (top 12) 8
theorem Ez:FnScope ["self","number"] ["self","number"] (AO JU):=.go
theorem Fb(T:Txt K mg a)(F:Fun K "block_of" "Book.block_of" JU f fd)  :
  FP P w K mg base 1 f fd ["self","number"] (LV K a) :=
 F.okF (QW K a) Ez Aw Av λ_ _ _ _ _ E hr hx=>(AQ (A4 (AU AV (BN (AU AV (BN (AB 0) rfl) (AB 1) (λ_ _=>rfl)) rfl) AJ (λ_ _=>rfl))))
abbrev JV:Stmt:=CN (top 12) 10
theorem fB:FnScope ["self","numbers","number"] ["self","numbers"] (AO JV):=.go
theorem Fc(T:Txt K mg a)(F:Fun K "ask_for_changes" "Book.ask_for_changes" JV f fd)  :
  FP P w K mg base 1 f fd ["self","numbers"] (LR K a) :=
 F.okF (QX K a) fB zN zM λ_ _ _ _ _ E hr hx=>(AQ (CY hx.po rfl (FY (AB 1)) (C2 2 fB.nd) (AQ (BS (EE (MS NB LB AJ (AB 2) (CI DV rfl T.DR (by rfl) (AD (BN (AB 0) rfl) AG)))) (AQ (M8 hx T.Ky rfl T.Kx (AD C6 AG))) BV))))
abbrev JW:Stmt:=top 13
theorem Fd:FnScope ["needs","ahead"] ["needs","ahead"] (AO JW):=.go
theorem Fg(T:Txt K mg a)(F:Fun K "needs_with" "needs_with" JW f fd)  :
  FP P w K mg base 1 f fd ["needs","ahead"] (LP K a) :=
 F.okF (N2 K a) Fd zH zG λ_ _ _ _ _ E hr hx=>(AR (BS (C0 KZ (AB 1) FN (CK _)) (AQ (A4 (ER O9 rfl T.MD (by rfl) (AD (XC rfl rfl T.fR rfl T.fQ (AB 0)) AG)))) BV)
   (AQ (A4 (ER O9 rfl T.MD (by rfl) (AD (XC rfl rfl T.fR rfl T.fQ (BE DD (ER LD rfl T.GG (by rfl) (AD (AB 0) AG)) (DC (AD (AB 1) AG)))) AG)))))
abbrev JX:Stmt:=CN (top 15) 2
theorem fC:FnScope ["self","number","gone","need"] ["self","number","gone"] (AO JX):=.go
theorem Fh(T:Txt K mg a)(F:Fun K "lack_of" "Hold.lack_of" JX f fd)  :
  FP P w K mg base 1 f fd ["self","number","gone"] (LT K a) :=
 F.okF (Q2 K a) fC zW zV λ_ _ _ _ _ E hr hx=>(AR (CY hx.po rfl (FY (BN (AU AV (BN (AB 0) rfl) (AB 1) (λ_ _=>rfl)) rfl)) (C2 3 fC.nd) (AQ (BS (PW.pt (OI (GH (IP (CF hr) (AB 3) (BN (AB 0) rfl)) (by with_unfolding_all rfl)) (OH (GH (IP (CF hr) (AB 3) (AB 2)) (by with_unfolding_all rfl))))) (AQ (A4 (AB 3))) BV)))
   (AQ (A4 FN)))
abbrev JY:Stmt:=CN (top 15) 3
theorem TU:FnScope ["self","values","block","laid","number"] ["self","values","block"] (AO JY):=.go
theorem Fj(T:Txt K mg a)(F:Fun K "laid_over" "Hold.laid_over" JY f fd)  :
  FP P w K mg base 1 f fd ["self","values","block"] (LU K a) :=
 F.okF (Q8 K a) TU z9 z0 λ_ _ _ _ _ E hr hx=>(AR (BQ 3 TU.nd (ER LD rfl T.GG (by rfl) (AD (AB 1) AG)))
   (AR (CY hx.po rfl (FY (AU AV (BN (AB 0) rfl) (AB 2) (λ_ _=>rfl))) (C2 4 TU.nd) (AQ (BS (GH (V4 (CF hr) (AB 4) (BN (AB 0) rfl)) (by with_unfolding_all rfl)) (AQ (MN (BN (AU AV (BN (AB 0) rfl) (AB 4) (λ_ _=>rfl)) rfl) (MM (AB 3) (AU AV (BN (AU AV (BN (AB 0) rfl) (AB 4) (λ_ _=>rfl)) rfl) AJ (λ_ _=>rfl)) ND))) BV)))
   (AQ (A4 (AB 3)))))
abbrev IB:Stmt:=CN (top 17) 0
theorem Fk:FnScope ["self","blocks","cells"] ["self","blocks","cells"] (AO IB):=.go
theorem Fl(T:Txt K mg a)(F:Fun K "__init__" "Plank.__init__" IB f fd)  :
  FP P w K mg base 1 f fd ["self","blocks","cells"] (IY K a) :=
 F.okF (Q9 K a) Fk yU yO λ_ _ _ _ _ E hr hx=>(AR (EG (AB 0) (K7 (tn:=["block"]) (cn:=["cells"]) (cap:=[2]) (IU (outer:=AO IB) (N:=["self","blocks","cells"]) rfl rfl (by decide +kernel)) rfl (D0 rfl T.D9 (AD (AB 1) AG)) (λ_ _ _ _ _ _=>(GJ (i:=0) (show(["block","cells"]:List Str).Nodup from by decide +kernel) rfl (Or.inl rfl))) (λ_ _ _ _ _ _=>K6) (λ_ _ _ _ _ _=>(BE FE (EH (AD FN AG)) (AB 1)))) rfl)
   (AR (EG (AB 0) (AB 2) rfl)
   (AQ (EG (AB 0) AJ rfl))))
abbrev JZ:Stmt:=CN (top 17) 1
theorem Fm:FnScope ["self"] ["self"] (AO JZ):=.go
theorem Fp(T:Txt K mg a)(F:Fun K "blocks" "Plank.blocks" JZ f fd)  :
  FP P w K mg base 1 f fd ["self"] (F0 K a) :=
 F.okF (RA K a) Fm yV yP λ_ _ _ _ _ E hr hx=>(AQ (A4 (CI DV rfl T.DR (by rfl) (AD (BN (AB 0) rfl) AG))))
abbrev J0:Stmt:=CN (top 17) 2
theorem Fq:FnScope ["self"] ["self"] (AO J0):=.go
theorem Fv(T:Txt K mg a)(F:Fun K "cells" "Plank.cells" J0 f fd)  :
  FP P w K mg base 1 f fd ["self"] (LJ K a) :=
 F.okF (RB K a) Fq yW yQ λ_ _ _ _ _ E hr hx=>(AQ (A4 (BN (AB 0) rfl)))
abbrev J1:Stmt:=CN (top 17) 6
theorem Fw:FnScope ["self","block"] ["self","block"] (AO J1):=.go
theorem Fx(T:Txt K mg a)(F:Fun K "ask_for_block" "Plank.ask_for_block" J1 f fd)  :
  FP P w K mg base 1 f fd ["self","block"] (F1 K a) :=
 F.okF (RC K a) Fw yX yR λ_ _ _ _ _ E hr hx=>(AQ (BS (EE (MS NB LB AJ (AB 1) (CI DV rfl T.DR (by rfl) (AD (BN (AB 0) rfl) AG)))) (AQ (M8 hx T.UF rfl T.UE (AD C6 AG))) BV))
abbrev J2:Stmt:=top 19
theorem Fy:FnScope ["script","k"] ["script","k"] (AO J2):=.go
theorem Fz(T:Txt K mg a)(F:Fun K "_law_cell_at" "_law_cell_at" J2 f fd)  :
  FP P w K mg base 1 f fd ["script","k"] (F5 K a) :=
 F.okF (RD K a) Fy zB y9 λ_ _ _ _ _ E hr hx=>(AR (BS (C0 LB (AB 1) (CI DV rfl T.DR (by rfl) (AD (AB 0) AG)) (CK _)) (AQ (A4 (AU AV (AB 0) (AB 1) (λ_ _=>rfl)))) BV)
   (AQ (A4 AJ)))
abbrev J3:Stmt:=top 20
theorem fD:FnScope ["cell","prime","many","low"] ["cell","prime","many"] (AO J3):=.go
theorem Gb(T:Txt K mg a)(F:Fun K "_law_pick" "_law_pick" J3 f fd)  :
  FP P w K mg base 1 f fd ["cell","prime","many"] (BZ K a) :=
 F.okF (RE K a) fD zA y0 λ_ _ _ _ _ E hr hx=>(AR (BQ 3 fD.nd (BE GM (BE DD (AB 0) (BE hW (AB 1) AJ)) (AB 1)))
   (AQ (A4 (BE GM (BE GM (BE FE (BE GM (BE FE (AB 3) (AB 3)) (AB 1)) (AB 3)) (AB 1)) (AB 2)))))
abbrev J4:Stmt:=CN (top 2) 0
theorem Gc:FnScope ["self","hold"] ["self","hold"] (AO J4):=.go
theorem Gd(T:Txt K mg a)(F:Fun K "chosen" "Broom.chosen" J4 f fd)(GF:BP P w K mg base (a "Hold") 1 "waiting" ["self"] (EC K a))(Jx:BP P w K mg base (a "Hold") 1 "block_of" ["self","number"] (LV K a)) :
  FP P w K mg base 2 f fd ["self","hold"] (JG K a) :=
 F.okF (RF K a) Gc Bg Bd λ_ _ _ _ _ E hr hx=>(AQ (A4 (CJ (AB 1) T.CM Jx hr.m hx.passes (AD (AU AV (EI (AB 1) T.CM GF hr.m hx.passes) AJ (λ_ _=>rfl)) AG))))
abbrev IC:Stmt:=CN (top 12) 0
theorem Gg:FnScope ["self","plank"] ["self","plank"] (AO IC):=.go
theorem Gh(T:Txt K mg a)(F:Fun K "__init__" "Book.__init__" IC f fd)(MB:BP P w K mg base (a "Plank") 1 "blocks" ["self"] (F0 K a)) :
  FP P w K mg base 2 f fd ["self","plank"] (HP K a) :=
 F.okF (RG K a) Gg zF zE λ_ _ _ _ _ E hr hx=>(AR (EG (AB 0) (AB 1) rfl)
   (AR (EG (AB 0) (DC AG) rfl)
   (AR (EG (AB 0) (K7 (tn:=["block"]) (cn:=[]) (cap:=[]) (IU (outer:=AO IC) (N:=["self","plank"]) rfl rfl (by decide +kernel)) rfl (D0 rfl T.D9 (AD (EI (AB 1) T.EO MB hr.m hx.passes) AG)) (λ_ _ _ _ _ _=>(GJ (i:=0) (show(["block"]:List Str).Nodup from by decide +kernel) rfl (Or.inl rfl))) (λ_ _ _ _ _ _=>K6) (λ_ _ _ _ _ _=>(DC AG))) rfl)
   (AR (EG (AB 0) V6 rfl)
   (AQ (EG (AB 0) K3 rfl))))))
abbrev J5:Stmt:=CN (top 12) 7
theorem Gj:FnScope ["self"] ["self"] (AO J5):=.go
theorem Gk(T:Txt K mg a)(F:Fun K "blocks" "Book.blocks" J5 f fd)(MB:BP P w K mg base (a "Plank") 1 "blocks" ["self"] (F0 K a)) :
  FP P w K mg base 2 f fd ["self"] (HU K a) :=
 F.okF (RH K a) Gj Az Ay λ_ _ _ _ _ E hr hx=>(AQ (A4 (EI (BN (AB 0) rfl) T.EO MB hr.m hx.passes)))
abbrev J6:Stmt:=CN (top 12) 9
theorem Gm:FnScope ["self","place"] ["self","place"] (AO J6):=.go
theorem Gp(T:Txt K mg a)(F:Fun K "ask_for_place" "Book.ask_for_place" J6 f fd)(Kc:BP P w K mg base (a "Plank") 1 "cells" ["self"] (LJ K a))(MB:BP P w K mg base (a "Plank") 1 "blocks" ["self"] (F0 K a)) :
  FP P w K mg base 2 f fd ["self","place"] (LQ K a) :=
 F.okF (RI K a) Gm zJ zI λ_ _ _ _ _ E hr hx=>(AQ (BS (PW.pt (MG (EE (MS NB LB AJ (AU AV (AB 1) AJ (λ_ _=>rfl)) (EI (BN (AB 0) rfl) T.EO MB hr.m hx.passes))) (MF (EE (MS NB LB AJ (AU AV (AB 1) AJ (λ_ _=>rfl)) (EI (BN (AB 0) rfl) T.EO Kc hr.m hx.passes)))))) (AQ (M8 hx T.UF rfl T.UE (AD C6 AG))) BV))
abbrev J7:Stmt:=CN (top 15) 1
theorem J9:FnScope ["self","block","taken","gone","out","held","number","lack"] ["self","block","taken"] (AO J7):=.go
theorem Gq(T:Txt K mg a)(F:Fun K "outcome" "Hold.outcome" J7 f fd)(Jz:BP P w K mg base (a "Hold") 1 "lack_of" ["self","number","gone"] (LT K a)) :
  FP P w K mg base 2 f fd ["self","block","taken"] (HR K a) :=
 F.okF (RV K a) J9 zZ zY λ_ _ _ _ _ E hr hx=>(AR (BQ 3 J9.nd (ER rY rfl T.Kl (by rfl) (AD (AB 2) AG)))
   (AR (BQ 4 J9.nd (DC AG))
   (AR (BQ 5 J9.nd (DC AG))
   (AR (CY hx.po rfl (FY (AU AV (BN (AB 0) rfl) (AB 1) (λ_ _=>rfl))) (C2 6 J9.nd) (AQ (BS (PW.pt (OI (GH (IP (CF hr) (AB 6) (BN (AB 0) rfl)) (by with_unfolding_all rfl)) (OH (GH (IP (CF hr) (AB 6) (AB 3)) (by with_unfolding_all rfl))))) (AR (BQ 7 J9.nd (CJ (AB 0) T.CM Jz hr.m hx.passes (AD (AB 6) (AD (AB 3) AG))))
   (AQ (BS (C0 KZ (AB 7) FN (CK _)) (AR (K2 (CF hr) (AB 3) (AB 6) C5 rfl)
   (AQ (DK (G7 PySem.F.plainAttrs_list PySem.F.slot_list_append PySem.F.type_list_append G8 (AB 4) (AD (AB 6) AG))))) (AQ (DK (G7 PySem.F.plainAttrs_list PySem.F.slot_list_append PySem.F.type_list_append G8 (AB 5) (AD (EH (AD (AB 6) (AD (AB 7) AG))) AG))))))) BV)))
   (AQ (A4 (EH (AD (AB 4) (AD (AB 5) AG)))))))))
abbrev KA:Stmt:=CN (top 17) 4
theorem Gv:FnScope ["self","block"] ["self","block"] (AO KA):=.go
theorem Gw(T:Txt K mg a)(F:Fun K "read" "Plank.read" KA f fd)(UB:BP P w K mg base (a "Plank") 1 "ask_for_block" ["self","block"] (F1 K a)) :
  FP P w K mg base 2 f fd ["self","block"] (F2 K a) :=
 F.okF (RW K a) Gv yY yS λ_ _ _ _ _ E hr hx=>(AR (DK (CJ (AB 0) T.EO UB hr.m hx.passes (AD (AB 1) AG)))
   (AQ (A4 (ER LD rfl T.GG (by rfl) (AD (AU AV (BN (AB 0) rfl) (AB 1) (λ_ _=>rfl)) AG)))))
abbrev KB:Stmt:=CN (top 17) 5
theorem Gx:FnScope ["self","block","values"] ["self","block","values"] (AO KB):=.go
theorem Gy(T:Txt K mg a)(F:Fun K "write" "Plank.write" KB f fd)(UB:BP P w K mg base (a "Plank") 1 "ask_for_block" ["self","block"] (F1 K a)) :
  FP P w K mg base 2 f fd ["self","block","values"] (HK K a) :=
 F.okF (RX K a) Gx yZ yT λ_ _ _ _ _ E hr hx=>(AR (DK (CJ (AB 0) T.EO UB hr.m hx.passes (AD (AB 1) AG)))
   (AR (BS (C0 (HD hr.units) (CI DV rfl T.DR (by rfl) (AD (AB 2) AG)) (BN (AB 0) rfl) (CK _)) (AQ (M8 hx T.UF rfl T.UE (AD C6 AG))) BV)
   (AR (MN (ER O9 rfl T.MD (by rfl) (AD (AB 2) AG)) (MM (BN (AB 0) rfl) (AB 1) ND))
   (AQ (U2 (AB 0) AJ U3)))))
abbrev KC:Stmt:=top 21
theorem TV:FnScope ["cell","far","text"] ["cell"] (AO KC):=.go
theorem Gz(T:Txt K mg a)(F:Fun K "_law_value" "_law_value" KC f fd)(CL:CS P w K mg base (1) "_law_pick" ["cell","prime","many"] (BZ K a)) :
  FP P w K mg base 2 f fd ["cell"] (HV K a) :=
 F.okF (RY K a) TV Bz By λ_ _ _ _ _ E hr hx=>(AR (BQ 1 TV.nd (BE MR (BE GM (BE DD (BE FE (BE GM (AB 0) (BE OQ AJ AJ)) AJ) AJ) (BE DD (BE FE AJ (BE OQ AJ AJ)) AJ)) (BE OQ AJ AJ)))
   (AR (BQ 2 TV.nd (BE FE C6 (BB CL hr.m hx.passes rfl (AD (AB 0) (AD AJ (AD AJ AG))))))
   (AQ (A4 (AU AV (DC (AD FN (AD (AB 1) (AD (BE MR (BB CL hr.m hx.passes rfl (AD (AB 0) (AD AJ (AD AJ AG)))) AJ) (AD (AB 2) (AD (EH (AD (AB 1) (AD (AB 2) AG))) (AD (EH AG) AG))))))) (BB CL hr.m hx.passes rfl (AD (AB 0) (AD AJ (AD AJ AG)))) (λ_ _=>rfl))))))
abbrev KD:Stmt:=CN (top 3) 0
theorem ID:FnScope ["self","hold","best","most","block","many"] ["self","hold"] (AO KD):=.go
theorem Hb(T:Txt K mg a)(F:Fun K "chosen" "Fullest.chosen" KD f fd)(T7:BP P w K mg base (a "Hold") 2 "blocks" ["self"] (HU K a))(T9:BP P w K mg base (a "Hold") 2 "outcome" ["self","block","taken"] (HR K a)) :
  FP P w K mg base 3 f fd ["self","hold"] (JH K a) :=
 F.okF (SA K a) ID Bj Bh λ_ _ _ _ _ E hr hx=>(AR (BQ 2 ID.nd AJ)
   (AR (BQ 3 ID.nd AJ)
   (AR (CY hx.po rfl (D0 rfl T.D9 (AD (EI (AB 1) T.CM T7 hr.m hx.passes) AG)) (C2 4 ID.nd) (AR (BQ 5 ID.nd (CI DV rfl T.DR (by rfl) (AD (AU AV (CJ (AB 1) T.CM T9 hr.m hx.passes (AD (AB 4) (AD K3 AG))) AJ (λ_ _=>rfl)) AG)))
   (AQ (BS (C0 WL (AB 5) (AB 3) (CK _)) (AR (BQ 2 ID.nd (AB 4))
   (AQ (BQ 3 ID.nd (AB 5)))) BV))))
   (AQ (A4 (AB 2))))))
abbrev KE:Stmt:=CN (top 4) 1
theorem fE:FnScope ["self","hold","block"] ["self","hold"] (AO KE):=.go
theorem Hc(T:Txt K mg a)(F:Fun K "chosen" "Round.chosen" KE f fd)(T7:BP P w K mg base (a "Hold") 2 "blocks" ["self"] (HU K a)) :
  FP P w K mg base 3 f fd ["self","hold"] (JI K a) :=
 F.okF (SB K a) fE Bl Bk λ_ _ _ _ _ E hr hx=>(AR (BQ 2 fE.nd (BE GM (BN (AB 0) rfl) (EI (AB 1) T.CM T7 hr.m hx.passes)))
   (AR (U2 (AB 0) AJ U3)
   (AQ (A4 (AB 2)))))
abbrev KF:Stmt:=CN (top 12) 3
theorem Hd:FnScope ["self","place"] ["self","place"] (AO KF):=.go
theorem Hg(T:Txt K mg a)(F:Fun K "newest" "Book.newest" KF f fd)(Jw:BP P w K mg base (a "Hold") 2 "ask_for_place" ["self","place"] (LQ K a)) :
  FP P w K mg base 3 f fd ["self","place"] (HQ K a) :=
 F.okF (SC K a) Hd zL zK λ_ _ _ _ _ E hr hx=>(AR (DK (CJ (AB 0) T.CM Jw hr.m hx.passes (AD (AB 1) AG)))
   (AQ (A4 (kB (CF hr) (BN (AB 0) rfl) (AB 1) ⟨rfl,rfl,rfl,rfl⟩))))
abbrev KG:Stmt:=CN (top 15) 0
theorem OD:FnScope ["self","block","values","told","number"] ["self","block"] (AO KG):=.go
theorem Hh(T:Txt K mg a)(F:Fun K "write" "Hold.write" KG f fd)(MC:BP P w K mg base (a "Plank") 2 "read" ["self","block"] (F2 K a))(T9:BP P w K mg base (a "Hold") 2 "outcome" ["self","block","taken"] (HR K a))(Kb:BP P w K mg base (a "Hold") 1 "laid_over" ["self","values","block"] (LU K a))(UC:BP P w K mg base (a "Plank") 2 "write" ["self","block","values"] (HK K a)) :
  FP P w K mg base 3 f fd ["self","block"] (HS K a) :=
 F.okF (SD K a) OD Ac Ab λ_ _ _ _ _ E hr hx=>(AR (BQ 2 OD.nd (CJ (BN (AB 0) rfl) T.EO MC hr.m hx.passes (AD (AB 1) AG)))
   (AR (BQ 3 OD.nd (CJ (AB 0) T.CM T9 hr.m hx.passes (AD (AB 1) (AD K3 AG))))
   (AR (CY hx.po rfl (FY (AU AV (AB 3) AJ (λ_ _=>rfl))) (C2 4 OD.nd) (AQ (K2 (CF hr) (BN (AB 0) rfl) (AB 4) C5 rfl)))
   (AR (DK (CJ (BN (AB 0) rfl) T.EO UC hr.m hx.passes (AD (AB 1) (AD (CJ (AB 0) T.CM Kb hr.m hx.passes (AD (AB 2) (AD (AB 1) AG))) AG))))
   (AQ (A4 (AB 3)))))))
abbrev GZ:Stmt:=top 23
theorem L7:FnScope ["cell","size","plank","rows","k","block"] ["cell","size"] (AO GZ):=.go
theorem Hj(T:Txt K mg a)(F:Fun K "_law_plank" "_law_plank" GZ f fd)(Kh:IS P w K mg base (a "Plank") 1 "Plank" ["self","blocks","cells"] (IY K a))(CL:CS P w K mg base (1) "_law_pick" ["cell","prime","many"] (BZ K a))(T5:CS P w K mg base (2) "_law_value" ["cell"] (HV K a))(UC:BP P w K mg base (a "Plank") 2 "write" ["self","block","values"] (HK K a)) :
  FP P w K mg base 3 f fd ["cell","size"] (JK K a) :=
 F.okF (SE K a) L7 Dc Db λ_ _ _ _ _ E hr hx=>(AR (BQ 2 L7.nd (M9 Kh hr.m hx.passes rfl (AD (AU AV (AB 1) AJ (λ_ _=>rfl)) (AD (AU AV (AB 1) AJ (λ_ _=>rfl)) AG))))
   (AR (kM (i:=3) (tn:=["block"]) (cn:=["size"]) (cap:=[1]) (IU (outer:=AO GZ) (N:=["cell","size","plank","rows","k","block"]) rfl rfl (by decide +kernel)) rfl L7.nd rfl rfl (D0 rfl T.D9 (AD (AU AV (AB 1) AJ (λ_ _=>rfl)) AG)) (λ_ _ _ _ _ _=>(GJ (i:=0) (show(["block","size"]:List Str).Nodup from by decide +kernel) rfl (Or.inl rfl))) (λ_ _ _ _ _ _=>K6) (λ_ _ _ _ _ _=>(K7 (tn:=["at"]) (cn:=[]) (cap:=[]) (sT (by decide +kernel)) rfl (D0 rfl T.D9 (AD (AU AV (AB 1) AJ (λ_ _=>rfl)) AG)) (λ_ _ _ _ _ _=>(GJ (i:=0) (show(["at"]:List Str).Nodup from by decide +kernel) rfl (Or.inl rfl))) (λ_ _ _ _ _ _=>K6) (λ_ _ _ _ _ _=>FN))))
   (AR (CY hx.po rfl (D0 rfl T.D9 (AD (BB CL hr.m hx.passes rfl (AD (AB 0) (AD AJ (AD AJ AG)))) AG)) (GJ (i:=4) L7.nd rfl (Or.inr rfl)) (AR (BQ 5 L7.nd (BB CL hr.m hx.passes rfl (AD (BE DD (AB 0) (AB 4)) (AD AJ (AD (AU AV (AB 1) AJ (λ_ _=>rfl)) AG)))))
   (AR (MN (K7 (tn:=["at"]) (cn:=["cell","k"]) (cap:=[0,4]) (IU (outer:=AO GZ) (N:=["cell","size","plank","rows","k","block"]) rfl rfl (by decide +kernel)) rfl (D0 rfl T.D9 (AD (AU AV (AB 1) AJ (λ_ _=>rfl)) AG)) (λ_ _ _ _ _ _=>(GJ (i:=0) (show(["at","cell","k"]:List Str).Nodup from by decide +kernel) rfl (Or.inl rfl))) (λ_ _ _ _ _ _=>K6) (λ_ _ _ _ _ _=>(BB T5 hr.m kP rfl (AD (BE DD (BE DD (AB 1) (BE FE AJ (AB 0))) (AB 2)) AG)))) (MM (AB 3) (AB 5) ND))
   (AQ (DK (CJ (AB 2) T.EO UC hr.m hx.passes (AD (AB 5) (AD (ER LD rfl T.GG (by rfl) (AD (AU AV (AB 3) (AB 5) (λ_ _=>rfl)) AG)) AG))))))))
   (AQ (A4 (EH (AD (AB 2) (AD (AB 3) AG))))))))
abbrev KH:Stmt:=top 24
theorem IE:FnScope ["cell","size","count","place","needs","k","back"] ["cell","size","count"] (AO KH):=.go
theorem Hk(T:Txt K mg a)(F:Fun K "_law_change" "_law_change" KH f fd)(CL:CS P w K mg base (1) "_law_pick" ["cell","prime","many"] (BZ K a))(T5:CS P w K mg base (2) "_law_value" ["cell"] (HV K a)) :
  FP P w K mg base 3 f fd ["cell","size","count"] (LX K a) :=
 F.okF (SI K a) IE Cj Cg λ_ _ _ _ _ E hr hx=>(AR (BQ 3 IE.nd (EH (AD (BB CL hr.m hx.passes rfl (AD (AB 0) (AD AJ (AD (AU AV (AB 1) AJ (λ_ _=>rfl)) AG)))) (AD (BB CL hr.m hx.passes rfl (AD (AB 0) (AD AJ (AD (AU AV (AB 1) AJ (λ_ _=>rfl)) AG)))) AG))))
   (AR (BS (C0 (FD hr.units) (BB CL hr.m hx.passes rfl (AD (AB 0) (AD AJ (AD AJ AG)))) AJ (CK _)) (AQ (BQ 3 IE.nd (EH (AD (BB CL hr.m hx.passes rfl (AD (AB 0) (AD AJ (AD (AU AV (AB 1) AJ (λ_ _=>rfl)) AG)))) (AD AJ AG))))) BV)
   (AR (BQ 4 IE.nd (DC AG))
   (AR (CY hx.po rfl (D0 rfl T.D9 (AD (BE FE (BB CL hr.m hx.passes rfl (AD (AB 0) (AD AJ (AD AJ AG)))) (ER iI rfl T.fP (by rfl) (AD (IJ WL (AB 2) AJ (CK _)) AG))) AG)) (C2 5 IE.nd) (AR (BQ 6 IE.nd (BB CL hr.m hx.passes rfl (AD (BE DD (AB 0) (AB 5)) (AD AJ (AD AJ AG)))))
   (AR (BS (C0 (FD hr.units) (BB CL hr.m hx.passes rfl (AD (BE DD (AB 0) (AB 5)) (AD AJ (AD AJ AG)))) AJ (CK _)) (AQ (BQ 6 IE.nd (BB CL hr.m hx.passes rfl (AD (BE DD (AB 0) (AB 5)) (AD AJ (AD (AB 2) AG)))))) BV)
   (AQ (DK (G7 PySem.F.plainAttrs_list PySem.F.slot_list_append PySem.F.type_list_append G8 (AB 4) (AD (CI (qH rfl) rfl T.Km (by rfl) (AD AJ (AD (BE MR (BE MR (AB 2) AJ) (AB 6)) AG))) AG)))))))
   (AQ (A4 (EH (AD (AB 3) (AD (BB T5 hr.m hx.passes rfl (AD (AB 0) AG)) (AD (AB 4) AG))))))))))
abbrev KI:Stmt:=top 27
theorem Hl:FnScope ["kind"] ["kind"] (AO KI):=.go
theorem Hm(T:Txt K mg a)(F:Fun K "_law_broom" "_law_broom" KI f fd)(Kj:IS P w K mg base (a "Round") 1 "Round" ["self"] (LW K a)) :
  FP P w K mg base 3 f fd ["kind"] (JM K a) :=
 F.okF (SJ K a) Hl Bx Bw λ_ _ _ _ _ E hr hx=>(AR (BS (C0 (FD hr.units) (AB 0) AJ (CK _)) (AQ (A4 (XN T.Kv rfl))) BV)
   (AR (BS (C0 (FD hr.units) (AB 0) AJ (CK _)) (AQ (A4 (XN T.Kw rfl))) BV)
   (AQ (A4 (kR Kj hr.m hx.passes rfl)))))
abbrev KJ:Stmt:=top 5
theorem TW:FnScope ["hold","broom","row","block"] ["hold","broom"] (AO KJ):=.go
theorem Hq(T:Txt K mg a)(F:Fun K "sweep" "sweep" KJ f fd)(GF:BP P w K mg base (a "Hold") 1 "waiting" ["self"] (EC K a))(Jp:BP P w K mg base (a "Broom") 2 "chosen" ["self","hold"] (JG K a))(Jq:BP P w K mg base (a "Fullest") 3 "chosen" ["self","hold"] (JH K a))(Kd:BP P w K mg base (a "Round") 3 "chosen" ["self","hold"] (JI K a))(UA:BP P w K mg base (a "Hold") 3 "write" ["self","block"] (HS K a)) :
  FP P w K mg base 4 f fd ["hold","broom"] (JJ K a) :=
 F.okF (SK K a) TW Bv Bq λ_ _ _ _ _ E hr hx=>(AR (BQ 2 TW.nd (DC AG))
   (AR (gT hx.po (EQ (EI (AB 0) T.CM GF hr.m hx.passes) (λ_=>rfl)) (AR (BQ 3 TW.nd (XM (CJ (AB 1) T.fT Jp hr.m hx.passes (AD (AB 0) AG)) (XM (CJ (AB 1) T.fU Jq hr.m hx.passes (AD (AB 0) AG)) (CJ (AB 1) T.UD Kd hr.m hx.passes (AD (AB 0) AG)))))
   (AR (DK (CJ (AB 0) T.CM UA hr.m hx.passes (AD (AB 3) AG)))
   (AQ (DK (G7 PySem.F.plainAttrs_list PySem.F.slot_list_append PySem.F.type_list_append G8 (AB 2) (AD (AB 3) AG)))))))
   (AQ (A4 (AB 2)))))
abbrev KK:Stmt:=CN (top 12) 1
theorem TY:FnScope ["self","place","value","needs","ahead","number"] ["self","place","value","needs"] (AO KK):=.go
theorem Hv(T:Txt K mg a)(F:Fun K "change" "Book.change" KK f fd)(T8:BP P w K mg base (a "Hold") 3 "newest" ["self","place"] (HQ K a))(Jv:BP P w K mg base (a "Hold") 1 "ask_for_changes" ["self","numbers"] (LR K a))(Jm:CS P w K mg base (1) "needs_with" ["needs","ahead"] (LP K a))(Kg:IS P w K mg base (a "Change") 1 "Change" ["self","place","value","needs"] (LO K a)) :
  FP P w K mg base 4 f fd ["self","place","value","needs"] (LS K a) :=
 F.okF (SL K a) TY zR zQ λ_ _ _ _ _ E hr hx=>(AR (BQ 4 TY.nd (CJ (AB 0) T.CM T8 hr.m hx.passes (AD (AB 1) AG)))
   (AR (DK (CJ (AB 0) T.CM Jv hr.m hx.passes (AD (AB 3) AG)))
   (AR (BQ 5 TY.nd (CI DV rfl T.DR (by rfl) (AD (BN (AB 0) rfl) AG)))
   (AR (DK (G7 PySem.F.plainAttrs_list PySem.F.slot_list_append PySem.F.type_list_append G8 (BN (AB 0) rfl) (AD (M9 Kg hr.m hx.passes rfl (AD (AB 1) (AD (AB 2) (AD (BB Jm hr.m hx.passes rfl (AD (AB 3) (AD (AB 4) AG))) AG)))) AG)))
   (AR (DK (G7 PySem.F.plainAttrs_list PySem.F.slot_list_append PySem.F.type_list_append G8 (AU AV (BN (AB 0) rfl) (AU AV (AB 1) AJ (λ_ _=>rfl)) (λ_ _=>rfl)) (AD (AB 5) AG)))
   (AR (K2 (CF hr) (BN (AB 0) rfl) (AB 1) (AB 5) rfl)
   (AQ (A4 (AB 5)))))))))
abbrev KL:Stmt:=CN (top 12) 2
theorem fG:FnScope ["self","place","number"] ["self","place"] (AO KL):=.go
theorem Hw(T:Txt K mg a)(F:Fun K "in_hand" "Book.in_hand" KL f fd)(T8:BP P w K mg base (a "Hold") 3 "newest" ["self","place"] (HQ K a))(MC:BP P w K mg base (a "Plank") 2 "read" ["self","block"] (F2 K a)) :
  FP P w K mg base 4 f fd ["self","place"] (F6 K a) :=
 F.okF (SM K a) fG Ah Ag λ_ _ _ _ _ E hr hx=>(AR (BQ 2 fG.nd (CJ (AB 0) T.CM T8 hr.m hx.passes (AD (AB 1) AG)))
   (AR (BS (C0 KZ (AB 2) FN (CK _)) (AQ (A4 (AU AV (CJ (BN (AB 0) rfl) T.EO MC hr.m hx.passes (AD (AU AV (AB 1) AJ (λ_ _=>rfl)) AG)) (AU AV (AB 1) AJ (λ_ _=>rfl)) (λ_ _=>rfl)))) BV)
   (AQ (A4 (BN (AU AV (BN (AB 0) rfl) (AB 2) (λ_ _=>rfl)) rfl)))))
abbrev KM:Stmt:=top 25
theorem L8:FnScope ["hold","block","side","told","number","other"] ["hold","block","side"] (AO KM):=.go
theorem Hx(T:Txt K mg a)(F:Fun K "_law_written" "_law_written" KM f fd)(UA:BP P w K mg base (a "Hold") 3 "write" ["self","block"] (HS K a)) :
  FP P w K mg base 4 f fd ["hold","block","side"] (HW K a) :=
 F.okF (SN K a) L8 Cm Cl λ_ _ _ _ _ E hr hx=>(AR (BQ 3 L8.nd (CJ (AB 0) T.CM UA hr.m hx.passes (AD (AB 1) AG)))
   (AR (CY hx.po rfl (FY (AU AV (AB 3) AJ (λ_ _=>rfl))) (C2 4 L8.nd) (AR (BS (GH (V4 (CF hr) (AB 4) (EB (CF hr) (AB 2) C6 (λ_ _=>rfl))) (by with_unfolding_all rfl)) (AQ (A4 C5)) BV)
   (AQ (CY hx.po rfl (FY (AU AV (AU AV (EB (CF hr) (AB 2) C6 (λ_ _=>rfl)) (AB 4) (λ_ _=>rfl)) AJ (λ_ _=>rfl))) (C2 5 L8.nd) (AQ (BS (PW.pt (OI (GH (IP (CF hr) (AB 5) (EB (CF hr) (AB 2) C6 (λ_ _=>rfl))) (by with_unfolding_all rfl)) (OH (C0 (sM hr.units) (AB 5) (AU AV (AB 3) AJ (λ_ _=>rfl)) (by with_unfolding_all rfl))))) (AQ (A4 C5)) BV))))))
   (AR (CY hx.po rfl (FY (AU AV (AB 3) AJ (λ_ _=>rfl))) (C2 4 L8.nd) (AQ (K2 (CF hr) (EB (CF hr) (AB 2) C6 (λ_ _=>rfl)) (AB 4) C5 rfl)))
   (AQ (A4 C5)))))
abbrev KN:Stmt:=top 28
theorem fH:FnScope ["hold","side","turn","blocks","k"] ["hold","side","turn","blocks"] (AO KN):=.go
theorem Hy(T:Txt K mg a)(F:Fun K "_law_by_turns" "_law_by_turns" KN f fd)(GF:BP P w K mg base (a "Hold") 1 "waiting" ["self"] (EC K a))(T6:CS P w K mg base (4) "_law_written" ["hold","block","side"] (HW K a)) :
  FP P w K mg base 5 f fd ["hold","side","turn","blocks"] (LZ K a) :=
 F.okF (SO K a) fH Cy Cw λ_ _ _ _ _ E hr hx=>(AR (CY hx.po rfl (D0 rfl T.D9 (AD (BE FE (AB 3) (BE DD AJ (CI DV rfl T.DR (by rfl) (AD (EB (CF hr) (AB 1) C6 (λ_ _=>rfl)) AG)))) AG)) (C2 4 fH.nd) (AR (BS (C0 (FD hr.units) (EI (AB 0) T.CM GF hr.m hx.passes) (DC AG) (CK _)) (AQ (A4 (IJ (FD hr.units) (CI tD rfl T.DR (by rfl) (AD (EB (CF hr) (AB 1) C6 (λ_ _=>rfl)) AG)) (CI DV rfl T.DR (by rfl) (AD (EB (CF hr) (AB 1) C6 (λ_ _=>rfl)) AG)) (CK _)))) BV)
   (AQ (BS (EE (EQ (BB T6 hr.m hx.passes rfl (AD (AB 0) (AD (BE GM (BE DD (AB 2) (AB 4)) (AB 3)) (AD (AB 1) AG)))) (λ_=>rfl))) (AQ (A4 C5)) BV))))
   (AQ (A4 (IJ (FD hr.units) (EI (AB 0) T.CM GF hr.m hx.passes) (DC AG) (CK _)))))
abbrev GB:Stmt:=top 22
theorem OE:FnScope ["found","due","one","other"] ["found","due"] (AO GB):=.go
theorem Hz{n:Nat}(T:Txt K mg a)(F:Fun K "_law_same" "_law_same" GB f fd)(G1:CS P w K mg base (n+1) "_law_same" ["found","due"] (DY K a n)) :
  FP P w K mg base (n+1+1) f fd ["found","due"] (DY K a (n+1)) :=
 F.okF (JO K a n) OE Cd Cc λ_ _ _ _ _ E hr hx=>(AR (BS (EQ (CI GT rfl T.G2 (by rfl) (AD (AB 1) (AD (EH (AD (E8 rfl T.GG (by rfl) rfl) (AD (E8 rfl T.MD (by rfl) rfl) AG))) AG))) (λ_=>rfl)) (AR (BS (PW.pt (MG (C0 (HD hr.units) (CI GT rfl T.G2 (by rfl) (AD (AB 0) (AD (E8 rfl T.GG (by rfl) rfl) AG))) (CI GT rfl T.G2 (by rfl) (AD (AB 1) (AD (E8 rfl T.GG (by rfl) rfl) AG))) (CK _)) (MF (EE (EQ (CI GT rfl T.G2 (by rfl) (AD (AB 0) (AD (EH (AD (E8 rfl T.GG (by rfl) rfl) (AD (E8 rfl T.MD (by rfl) rfl) AG))) AG))) (λ_=>rfl)))))) (AQ (A4 C5)) BV)
   (AR (BS (C0 (HD hr.units) (CI DV rfl T.DR (by rfl) (AD (AB 0) AG)) (CI DV rfl T.DR (by rfl) (AD (AB 1) AG)) (CK _)) (AQ (A4 C5)) BV)
   (AR (CY hx.po rfl (qE rfl T.Kp (AD (AB 0) (AD (AB 1) AG))) (gQ rfl (UJ (C2 2 OE.nd) (UJ (C2 3 OE.nd) gP))) (AQ (BS (EE (EQ (BB G1 (hr.mono (by omega)) hx.passes rfl (AD (AB 2) (AD (AB 3) AG))) (λ_=>rfl))) (AQ (A4 C5)) BV)))
   (AQ (A4 C5))))) BV)
   (AR (BS (C0 KZ (AB 1) FN (CK _)) (AQ (A4 (IJ KZ (AB 0) FN (CK _)))) BV)
   (AR (BS (EQ (CI GT rfl T.G2 (by rfl) (AD (AB 1) (AD (E8 rfl T.fS (by rfl) rfl) AG))) (λ_=>rfl)) (AQ (A4 (KW (CI GT rfl T.G2 (by rfl) (AD (AB 0) (AD (E8 rfl T.fS (by rfl) rfl) AG))) (MH (IJ (FD hr.units) (AB 0) (AB 1) (CK _)))))) BV)
   (AQ (A4 (KW (CI GT rfl T.G2 (by rfl) (AD (AB 0) (AD (E8 rfl T.fP (by rfl) rfl) AG))) (KW (lJ (CI GT rfl T.G2 (by rfl) (AD (AB 0) (AD (E8 rfl T.Kk (by rfl) rfl) AG)))) (MH (IJ (FD hr.units) (AB 0) (AB 1) (CK _))))))))))
abbrev KO:Stmt:=top 26
theorem L9:FnScope ["holds","sides","cell","size","places","one","k","j"] ["holds","sides","cell","size","places"] (AO KO):=.go
theorem Jb(T:Txt K mg a)(F:Fun K "_law_both" "_law_both" KO f fd)(Jl:CS P w K mg base (3) "_law_change" ["cell","size","count"] (LX K a))(Jy:BP P w K mg base (a "Hold") 4 "change" ["self","place","value","needs"] (LS K a))(CL:CS P w K mg base (1) "_law_pick" ["cell","prime","many"] (BZ K a))(T6:CS P w K mg base (4) "_law_written" ["hold","block","side"] (HW K a))(MA:BP P w K mg base (a "Hold") 4 "in_hand" ["self","place"] (F6 K a))(G1:CS P w K mg base (9) "_law_same" ["found","due"] (DY K a 8)) :
  FP P w K mg base 10 f fd ["holds","sides","cell","size","places"] (LY K a) :=
 F.okF (SX K a) L9 Dl Dk λ_ _ _ _ _ E hr hx=>(AR (BQ 5 L9.nd (BB Jl hr.m hx.passes rfl (AD (AB 2) (AD (AB 3) (AD (CI DV rfl T.DR (by rfl) (AD (EB (CF hr) (AU AV (AB 1) AJ (λ_ _=>rfl)) C6 (λ_ _=>rfl)) AG)) AG)))))
   (AR (CY hx.po rfl (D0 rfl T.D9 (AD AJ AG)) (C2 6 L9.nd) (AR (BS (C0 (HD hr.units) (CJ (AU AV (AB 0) (AB 6) (λ_ _=>rfl)) T.CM Jy hr.m hx.passes (AD (AU AV (AB 5) AJ (λ_ _=>rfl)) (AD (AU AV (AB 5) AJ (λ_ _=>rfl)) (AD (ER LD rfl T.GG (by rfl) (AD (AU AV (AB 5) AJ (λ_ _=>rfl)) AG)) AG)))) (CI DV rfl T.DR (by rfl) (AD (EB (CF hr) (AU AV (AB 1) (AB 6) (λ_ _=>rfl)) C6 (λ_ _=>rfl)) AG)) (CK _)) (AQ (A4 C5)) BV)
   (AQ (DK (G7 PySem.F.plainAttrs_list PySem.F.slot_list_append PySem.F.type_list_append G8 (EB (CF hr) (AU AV (AB 1) (AB 6) (λ_ _=>rfl)) C6 (λ_ _=>rfl)) (AD (AB 5) AG))))))
   (AR (K2 (CF hr) (AB 4) (AU AV (AB 5) AJ (λ_ _=>rfl)) (AU AV (AB 5) AJ (λ_ _=>rfl)) rfl)
   (AR (CY hx.po rfl (D0 rfl T.D9 (AD AJ AG)) (C2 6 L9.nd) (AQ (CY hx.po rfl (D0 rfl T.D9 (AD (BB CL hr.m hx.passes rfl (AD (BE DD (AB 2) (AB 6)) (AD AJ (AD AJ AG)))) AG)) (C2 7 L9.nd) (AQ (BS (EE (EQ (BB T6 hr.m hx.passes rfl (AD (AU AV (AB 0) (AB 6) (λ_ _=>rfl)) (AD (BB CL hr.m hx.passes rfl (AD (BE DD (BE DD (AB 2) (BE FE AJ (AB 7))) (AB 6)) (AD AJ (AD (AU AV (AB 3) AJ (λ_ _=>rfl)) AG)))) (AD (AU AV (AB 1) (AB 6) (λ_ _=>rfl)) AG)))) (λ_=>rfl))) (AQ (A4 C5)) BV)))))
   (AQ (A4 (KW (BB G1 hr.m hx.passes rfl (AD (CJ (AU AV (AB 0) AJ (λ_ _=>rfl)) T.CM MA hr.m hx.passes (AD (AU AV (AB 5) AJ (λ_ _=>rfl)) AG)) (AD (AU AV (AB 5) AJ (λ_ _=>rfl)) AG))) (MH (BB G1 hr.m hx.passes rfl (AD (CJ (AU AV (AB 0) AJ (λ_ _=>rfl)) T.CM MA hr.m hx.passes (AD (AU AV (AB 5) AJ (λ_ _=>rfl)) AG)) (AD (AU AV (AB 5) AJ (λ_ _=>rfl)) AG)))))))))))
abbrev KP:Stmt:=top 29
theorem TZ:FnScope ["plank","rows","places","place","block"] ["plank","rows","places"] (AO KP):=.go
theorem Jc(T:Txt K mg a)(F:Fun K "_law_shows" "_law_shows" KP f fd)(MC:BP P w K mg base (a "Plank") 2 "read" ["self","block"] (F2 K a))(G1:CS P w K mg base (9) "_law_same" ["found","due"] (DY K a 8)) :
  FP P w K mg base 10 f fd ["plank","rows","places"] (JN K a) :=
 F.okF (S6 K a) TZ Dw Dv λ_ _ _ _ _ E hr hx=>(AR (CY hx.po rfl (XO (AB 2)) (C2 3 TZ.nd) (AQ (MN (EB (CF hr) (AB 2) (AB 3) (λ_ _=>rfl)) (MM (AU AV (AB 1) (AU AV (AB 3) AJ (λ_ _=>rfl)) (λ_ _=>rfl)) (AU AV (AB 3) AJ (λ_ _=>rfl)) ND))))
   (AR (CY hx.po rfl (D0 rfl T.D9 (AD (CI DV rfl T.DR (by rfl) (AD (AB 1) AG)) AG)) (C2 4 TZ.nd) (AQ (BS (EE (EQ (BB G1 hr.m hx.passes rfl (AD (CJ (AB 0) T.EO MC hr.m hx.passes (AD (AB 4) AG)) (AD (AU AV (AB 1) (AB 4) (λ_ _=>rfl)) AG))) (λ_=>rfl))) (AQ (A4 C5)) BV)))
   (AQ (A4 C5))))
abbrev GC:Stmt:=top 30
theorem GD:FnScope ["script","first","size","planks","holds","sides","places","cell","place"] ["script"] (AO GC):=.go
theorem Jd(T:Txt K mg a)(F:Fun K "law" "law" GC f fd)(T4:CS P w K mg base (1) "_law_cell_at" ["script","k"] (F5 K a))(CL:CS P w K mg base (1) "_law_pick" ["cell","prime","many"] (BZ K a))(fJ:CS P w K mg base (3) "_law_plank" ["cell","size"] (JK K a))(fN:IS P w K mg base (a "Hold") 2 "Hold" ["self","plank"] (HP K a))(Jj:CS P w K mg base (10) "_law_both" ["holds","sides","cell","size","places"] (LY K a))(MA:BP P w K mg base (a "Hold") 4 "in_hand" ["self","place"] (F6 K a))(G1:CS P w K mg base (9) "_law_same" ["found","due"] (DY K a 8))(fI:CS P w K mg base (3) "_law_broom" ["kind"] (JM K a))(fM:CS P w K mg base (4) "sweep" ["hold","broom"] (JJ K a))(Jk:CS P w K mg base (5) "_law_by_turns" ["hold","side","turn","blocks"] (LZ K a))(GF:BP P w K mg base (a "Hold") 1 "waiting" ["self"] (EC K a))(fK:CS P w K mg base (10) "_law_shows" ["plank","rows","places"] (JN K a)) :
  FP P w K mg base 11 f fd ["script"] (QS K a) :=
 F.okF (S9 K a) GD El Ek λ_ _ _ _ _ E hr hx=>(AR (BQ 1 GD.nd (BB T4 hr.m hx.passes rfl (AD (AB 0) (AD AJ AG))))
   (AR (BQ 2 GD.nd (EH (AD (BE DD AJ (BB CL hr.m hx.passes rfl (AD (AB 1) (AD AJ (AD AJ AG))))) (AD (BE DD AJ (BB CL hr.m hx.passes rfl (AD (AB 1) (AD AJ (AD AJ AG))))) AG))))
   (AR (BQ 3 GD.nd (DC (AD (BB fJ hr.m hx.passes rfl (AD (BB T4 hr.m hx.passes rfl (AD (AB 0) (AD AJ AG))) (AD (AB 2) AG))) (AD (BB fJ hr.m hx.passes rfl (AD (BB T4 hr.m hx.passes rfl (AD (AB 0) (AD AJ AG))) (AD (AB 2) AG))) AG))))
   (AR (BQ 4 GD.nd (DC (AD (M9 fN hr.m hx.passes rfl (AD (AU AV (AU AV (AB 3) AJ (λ_ _=>rfl)) AJ (λ_ _=>rfl)) AG)) (AD (M9 fN hr.m hx.passes rfl (AD (AU AV (AU AV (AB 3) AJ (λ_ _=>rfl)) AJ (λ_ _=>rfl)) AG)) AG))))
   (AR (BQ 5 GD.nd (DC (AD (WA (M7 C6 (DC AG) (M7 C6 K3 V7)) rfl rfl (by simp) (by simp)) (AD (WA (M7 C6 (DC AG) (M7 C6 K3 V7)) rfl rfl (by simp) (by simp)) AG))))
   (AR (BQ 6 GD.nd V6)
   (AR (CY hx.po rfl (FY (jA lI (AB 0) (VD AJ) (VD AJ))) (C2 7 GD.nd) (AQ (BS (EE (EQ (BB Jj hr.m hx.passes rfl (AD (AB 4) (AD (AB 5) (AD (AB 7) (AD (AB 2) (AD (AB 6) AG)))))) (λ_=>rfl))) (AQ (A4 C5)) BV)))
   (AR (CY hx.po rfl (XO (AB 6)) (C2 8 GD.nd) (AQ (BS (PW.pt (MG (EE (EQ (BB G1 hr.m hx.passes rfl (AD (CJ (AU AV (AB 4) AJ (λ_ _=>rfl)) T.CM MA hr.m hx.passes (AD (AB 8) AG)) (AD (EB (CF hr) (AB 6) (AB 8) (λ_ _=>rfl)) AG))) (λ_=>rfl))) (MF (C0 (HD hr.units) (CJ (AU AV (AB 4) AJ (λ_ _=>rfl)) T.CM MA hr.m hx.passes (AD (AB 8) AG)) (EB (CF hr) (AB 6) (AB 8) (λ_ _=>rfl)) (CK _))))) (AQ (A4 C5)) BV)))
   (AR (DK (BB fM hr.m hx.passes rfl (AD (AU AV (AB 4) AJ (λ_ _=>rfl)) (AD (BB fI hr.m hx.passes rfl (AD (BB CL hr.m hx.passes rfl (AD (AB 1) (AD AJ (AD AJ AG)))) AG)) AG))))
   (AR (BS (C0 (FD hr.units) (BB CL hr.m hx.passes rfl (AD (AB 1) (AD AJ (AD AJ AG)))) AJ (CK _)) (AQ (DK (BB fM hr.m hx.passes rfl (AD (AU AV (AB 4) AJ (λ_ _=>rfl)) (AD (BB fI hr.m hx.passes rfl (AD (BB CL hr.m hx.passes rfl (AD (AB 1) (AD AJ (AD AJ AG)))) AG)) AG))))) (AQ (BS (EE (EQ (BB Jk hr.m hx.passes rfl (AD (AU AV (AB 4) AJ (λ_ _=>rfl)) (AD (AU AV (AB 5) AJ (λ_ _=>rfl)) (AD (BB CL hr.m hx.passes rfl (AD (AB 1) (AD AJ (AD (AU AV (AB 2) AJ (λ_ _=>rfl)) AG)))) (AD (AU AV (AB 2) AJ (λ_ _=>rfl)) AG))))) (λ_=>rfl))) (AQ (A4 C5)) BV)))
   (AR (BS (PW.pt (MG (C0 (HD hr.units) (EI (AU AV (AB 4) AJ (λ_ _=>rfl)) T.CM GF hr.m hx.passes) (DC AG) (CK _)) (MF (C0 (HD hr.units) (EI (AU AV (AB 4) AJ (λ_ _=>rfl)) T.CM GF hr.m hx.passes) (DC AG) (CK _))))) (AQ (A4 C5)) BV)
   (AQ (A4 (KW (BB fK hr.m hx.passes rfl (AD (AU AV (AU AV (AB 3) AJ (λ_ _=>rfl)) AJ (λ_ _=>rfl)) (AD (AU AV (AU AV (AB 3) AJ (λ_ _=>rfl)) AJ (λ_ _=>rfl)) (AD (AB 6) AG)))) (MH (BB fK hr.m hx.passes rfl (AD (AU AV (AU AV (AB 3) AJ (λ_ _=>rfl)) AJ (λ_ _=>rfl)) (AD (AU AV (AU AV (AB 3) AJ (λ_ _=>rfl)) AJ (λ_ _=>rfl)) (AD (AB 6) AG)))))))))))))))))))
end
end L2
namespace L2
theorem Jg(q7h q7i q7j q7k q7l q7m q7n q7o:Addr):∃ a:Ad,a "Broom"=q7h/\a "Fullest"=q7i/\a "Round"=q7j/\a "NoBlock"=q7k/\a "NoChange"=q7l/\a "Change"=q7m/\a "Hold"=q7n/\a "Plank"=q7o :=
 ⟨λs=>if s="Broom" then q7h else if s="Fullest" then q7i else if s="Round" then q7j else if s="NoBlock" then q7k else if s="NoChange" then q7l else if s="Change" then q7m else if s="Hold" then q7n else if s="Plank" then q7o else 0,by simp,by simp,by simp,by simp,by simp,by simp,by simp,by simp⟩
theorem G0{α :Type}{P:List α ->Prop}(h:∀ x0,P [x0]):∀ us:List α,us.length=1->P us
 | [],e=>by simp at e
 | [x0],_=>h x0
 | _::_::_,e=>by simp at e
theorem DJ{α :Type}{P:List α ->Prop}(h:∀ x0 x1,P [x0,x1]):∀ us:List α,us.length=2->P us
 | [],e=>by simp at e
 | [_],e=>by simp at e
 | [x0,x1],_=>h x0 x1
 | _::_::_::_,e=>by simp at e
theorem GE{α :Type}{P:List α ->Prop}(h:∀ x0 x1 x2,P [x0,x1,x2]):∀ us:List α,us.length=3->P us
 | [],e=>by simp at e
 | [_],e=>by simp at e
 | [_,_],e=>by simp at e
 | [x0,x1,x2],_=>h x0 x1 x2
 | _::_::_::_::_,e=>by simp at e
theorem T2{α :Type}{P:List α ->Prop}(h:∀ x0 x1 x2 x3,P [x0,x1,x2,x3]):∀ us:List α,us.length=4->P us
 | [],e=>by simp at e
 | [_],e=>by simp at e
 | [_,_],e=>by simp at e
 | [_,_,_],e=>by simp at e
 | [x0,x1,x2,x3],_=>h x0 x1 x2 x3
 | _::_::_::_::_::_,e=>by simp at e
theorem Jh{α :Type}{P:List α ->Prop}(h:∀ x0 x1 x2 x3 q76,P [x0,x1,x2,x3,q76]):∀ us:List α,us.length=5->P us
 | [],e=>by simp at e
 | [_],e=>by simp at e
 | [_,_],e=>by simp at e
 | [_,_,_],e=>by simp at e
 | [_,_,_,_],e=>by simp at e
 | [x0,x1,x2,x3,q76],_=>h x0 x1 x2 x3 q76
 | _::_::_::_::_::_::_,e=>by simp at e
def T3(K:W.Frag):Sp:=λvs H Q _=>∃ (s:Addr) (ns:List Int),vs=[.ref s]/\SqL K H s (ns.map V.int)/\ns.length<=63/\∀ H',Q (.bl true) H'
theorem all_mk{l:W.OpenLaw}{w:World}{K:W.Frag}{h:Heap}{mg:Str->Option Value}{fa:Addr}{q7h q7i q7j q7k q7l q7m q7n q7o:Addr}{q7p q7q q7r q7s q7t q7u q7v q7w q7x q7y q7z q80 q81 q82 q83 q84 q85 q86 q87 q88 q89 q8a q8b q8c q8d q8e q8f q8g q8h q8i q8j q8k q8l q8m q8n q8o q8p q8q:Addr}{q8r q9t qav qbx qcz qe1 q8s q9u qaw qby qd0 qe2 q8t q9v qax qbz qd1 qe3 q8u q9w qay qc0 qd2 qe4 q8v q9x qaz qc1 qd3 qe5 q8w q9y qb0 qc2 qd4 qe6 q8x q9z qb1 qc3 qd5 qe7 q8y qa0 qb2 qc4 qd6 qe8 q8z qa1 qb3 qc5 qd7 qe9 q90 qa2 qb4 qc6 qd8 qea q91 qa3 qb5 qc7 qd9 qeb q92 qa4 qb6 qc8 qda qec q93 qa5 qb7 qc9 qdb qed q94 qa6 qb8 qca qdc qee q95 qa7 qb9 qcb qdd qef q96 qa8 qba qcc qde qeg q97 qa9 qbb qcd qdf qeh q98 qaa qbc qce qdg qei q99 qab qbd qcf qdh qej q9a qac qbe qcg qdi qek q9b qad qbf qch qdj qel q9c qae qbg qci qdk qem q9d qaf qbh qcj qdl qen q9e qag qbi qck qdm qeo q9f qah qbj qcl qdn qep q9g qai qbk qcm qdo qeq q9h qaj qbl qcn qdp qer q9i qak qbm qco qdq qes q9j qal qbn qcp qdr qet q9k qam qbo qcq qds qeu q9l qan qbp qcr qdt qev q9m qao qbq qcs qdu qew q9n qap qbr qct qdv qex q9o qaq qbs qcu qdw qey q9p qar qbt qcv qdx qez q9q qas qbu qcw qdy qf0 q9r qat qbv qcx qdz qf1 q9s qau qbw qcy qe0 qf2:Value}{qf3 qg5 qf4 qg6 qf5 qg7 qf6 qg8 qf7 qg9 qf8 qga qf9 qgb qfa qgc qfb qgd qfc qge qfd qgf qfe qgg qff qgh qfg qgi qfh qgj qfi qgk qfj qgl qfk qgm qfl qgn qfm qgo qfn qgp qfo qgq qfp qgr qfq qgs qfr qgt qfs qgu qft qgv qfu qgw qfv qgx qfw qgy qfx qgz qfy qh0 qfz qh1 qg0 qh2 qg1 qh3 qg2 qh4 qg3 qh5 qg4 qh6:Option Addr}{qh7 qh8 qh9 qha qhb qhc qhd qhe qhf qhg qhh qhi qhj qhk qhl qhm qhn qho qhp qhq qhr qhs qht qhu qhv qhw qhx qhy qhz qi0 qi1 qi2 qi3 qi4 qi5 qi6 qi7 qi8:Array (Option Value)}(X:K.In h)(G:h.Ns mainGlobals mg)(hfa:mg "law"=some (.ref fa))
  (q0:W.nsIn K mainGlobals "Broom"=some (some (.ref q7h)))
  (q1:W.nsIn K mainGlobals "Fullest"=some (some (.ref q7i)))
  (q2:W.nsIn K mainGlobals "Round"=some (some (.ref q7j)))
  (q3:W.nsIn K mainGlobals "NoBlock"=some (some (.ref q7k)))
  (q4:W.nsIn K mainGlobals "NoChange"=some (some (.ref q7l)))
  (q5:W.nsIn K mainGlobals "Change"=some (some (.ref q7m)))
  (q6:W.nsIn K mainGlobals "Hold"=some (some (.ref q7n)))
  (q7:W.nsIn K mainGlobals "Plank"=some (some (.ref q7o)))
  (q8:W.plainGet K q7h Str.empty=true)
  (q9:W.hasDictIn K q7h=true)
  (qa:W.plainOver K q7h=true)
  (qb:W.findIn K (.ref q7h) "__setattr__"=some (some (.builtin "object.__setattr__")))
  (qc:W.plainGet K q7m Str.empty=true)
  (qd:W.hasDictIn K q7m=true)
  (qe:W.plainOver K q7m=true)
  (qf:W.findIn K (.ref q7m) "__setattr__"=some (some (.builtin "object.__setattr__")))
  (qg:W.plainGet K q7i Str.empty=true)
  (qh:W.hasDictIn K q7i=true)
  (qi:W.plainOver K q7i=true)
  (qj:W.findIn K (.ref q7i) "__setattr__"=some (some (.builtin "object.__setattr__")))
  (qk:W.plainGet K q7n Str.empty=true)
  (ql:W.hasDictIn K q7n=true)
  (qm:W.plainOver K q7n=true)
  (qn:W.findIn K (.ref q7n) "__setattr__"=some (some (.builtin "object.__setattr__")))
  (qo:W.plainGet K q7o Str.empty=true)
  (qp:W.hasDictIn K q7o=true)
  (qq:W.plainOver K q7o=true)
  (qr:W.findIn K (.ref q7o) "__setattr__"=some (some (.builtin "object.__setattr__")))
  (qs:W.plainGet K q7j Str.empty=true)
  (qt:W.hasDictIn K q7j=true)
  (qu:W.plainOver K q7j=true)
  (qv:W.findIn K (.ref q7j) "__setattr__"=some (some (.builtin "object.__setattr__")))
  (qw:W.makesIn K q7h=true)
  (qx:W.keepIn K (.ref q7h)=true)
  (qy:W.findIn K (.ref q7h) "__init__"=some (some (.builtin "object.__init__")))
  (qz:W.makesIn K q7i=true)
  (q10:W.keepIn K (.ref q7i)=true)
  (q11:W.findIn K (.ref q7i) "__init__"=some (some (.builtin "object.__init__")))
  (q12:W.makesIn K q7m=true)
  (q13:W.keepIn K (.ref q7m)=true)
  (q14:W.makesIn K q7n=true)
  (q15:W.keepIn K (.ref q7n)=true)
  (q16:W.makesIn K q7o=true)
  (q17:W.keepIn K (.ref q7o)=true)
  (q18:W.makesIn K q7j=true)
  (q19:W.keepIn K (.ref q7j)=true)
  (q1a:W.excIn K q7k [.type "ValueError",.type "Exception",.type "BaseException",.type "object"] "ValueError.__new__"=true)
  (q1b:W.excIn K q7l [.type "ValueError",.type "Exception",.type "BaseException",.type "object"] "ValueError.__new__"=true)
  (q1c:W.nsIn K mainGlobals "bool"=some none)
  (q1d:W.nsIn K mainGlobals "dict"=some none)
  (q1e:W.nsIn K mainGlobals "int"=some none)
  (q1f:W.nsIn K mainGlobals "isinstance"=some none)
  (q1g:W.nsIn K mainGlobals "len"=some none)
  (q1h:W.nsIn K mainGlobals "list"=some none)
  (q1i:W.nsIn K mainGlobals "max"=some none)
  (q1j:W.nsIn K mainGlobals "range"=some none)
  (q1k:W.nsIn K mainGlobals "set"=some none)
  (q1l:W.nsIn K mainGlobals "sorted"=some none)
  (q1m:W.nsIn K mainGlobals "str"=some none)
  (q1n:W.nsIn K mainGlobals "tuple"=some none)
  (q1o:W.nsIn K mainGlobals "zip"=some none)
  (q1p:W.findIn K (.ref q7j) "__init__"=some (some (.ref q7p)))
  (q1q:W.isFn K (.ref q7p)=true)
  (q1r:K.lookup q7p=some ⟨q8r,qf3,.func (W.fnOf "__init__" "Round.__init__" (BC JS) (A8 JS) (AO JS) .none q9t qav qbx qg5 qcz qe1),qh7⟩)
  (q1s:W.codeIn K qcz "Round.__init__"=true)
  (q1t:W.keepIn K (.ref q7p)=true)
  (q1u:W.findIn K (.ref q7m) "__init__"=some (some (.ref q7q)))
  (q1v:W.isFn K (.ref q7q)=true)
  (q1w:K.lookup q7q=some ⟨q8s,qf4,.func (W.fnOf "__init__" "Change.__init__" (BC JT) (A8 JT) (AO JT) .none q9u qaw qby qg6 qd0 qe2),qh8⟩)
  (q1x:W.codeIn K qd0 "Change.__init__"=true)
  (q1y:W.keepIn K (.ref q7q)=true)
  (q1z:W.findIn K (.ref q7n) "waiting"=some (some (.ref q7r)))
  (q20:W.isFn K (.ref q7r)=true)
  (q21:K.lookup q7r=some ⟨q8t,qf5,.func (W.fnOf "waiting" "Book.waiting" (BC IA) (A8 IA) (AO IA) .none q9v qax qbz qg7 qd1 qe3),qh9⟩)
  (q22:W.codeIn K qd1 "Book.waiting"=true)
  (q23:W.keepIn K (.ref q7r)=true)
  (q24:W.findIn K (.ref q7n) "block_of"=some (some (.ref q7s)))
  (q25:W.isFn K (.ref q7s)=true)
  (q26:K.lookup q7s=some ⟨q8u,qf6,.func (W.fnOf "block_of" "Book.block_of" (BC JU) (A8 JU) (AO JU) .none q9w qay qc0 qg8 qd2 qe4),qha⟩)
  (q27:W.codeIn K qd2 "Book.block_of"=true)
  (q28:W.keepIn K (.ref q7s)=true)
  (q29:W.findIn K (.ref q7n) "ask_for_changes"=some (some (.ref q7t)))
  (q2a:W.isFn K (.ref q7t)=true)
  (q2b:K.lookup q7t=some ⟨q8v,qf7,.func (W.fnOf "ask_for_changes" "Book.ask_for_changes" (BC JV) (A8 JV) (AO JV) .none q9x qaz qc1 qg9 qd3 qe5),qhb⟩)
  (q2c:W.codeIn K qd3 "Book.ask_for_changes"=true)
  (q2d:W.keepIn K (.ref q7t)=true)
  (q2e:W.nsIn K mainGlobals "needs_with"=some (some (.ref q7u)))
  (q2f:K.lookup q7u=some ⟨q8w,qf8,.func (W.fnOf "needs_with" "needs_with" (BC JW) (A8 JW) (AO JW) .none q9y qb0 qc2 qga qd4 qe6),qhc⟩)
  (q2g:W.codeIn K qd4 "needs_with"=true)
  (q2h:W.keepIn K (.ref q7u)=true)
  (q2i:W.findIn K (.ref q7n) "lack_of"=some (some (.ref q7v)))
  (q2j:W.isFn K (.ref q7v)=true)
  (q2k:K.lookup q7v=some ⟨q8x,qf9,.func (W.fnOf "lack_of" "Hold.lack_of" (BC JX) (A8 JX) (AO JX) .none q9z qb1 qc3 qgb qd5 qe7),qhd⟩)
  (q2l:W.codeIn K qd5 "Hold.lack_of"=true)
  (q2m:W.keepIn K (.ref q7v)=true)
  (q2n:W.findIn K (.ref q7n) "laid_over"=some (some (.ref q7w)))
  (q2o:W.isFn K (.ref q7w)=true)
  (q2p:K.lookup q7w=some ⟨q8y,qfa,.func (W.fnOf "laid_over" "Hold.laid_over" (BC JY) (A8 JY) (AO JY) .none qa0 qb2 qc4 qgc qd6 qe8),qhe⟩)
  (q2q:W.codeIn K qd6 "Hold.laid_over"=true)
  (q2r:W.keepIn K (.ref q7w)=true)
  (q2s:W.findIn K (.ref q7o) "__init__"=some (some (.ref q7x)))
  (q2t:W.isFn K (.ref q7x)=true)
  (q2u:K.lookup q7x=some ⟨q8z,qfb,.func (W.fnOf "__init__" "Plank.__init__" (BC IB) (A8 IB) (AO IB) .none qa1 qb3 qc5 qgd qd7 qe9),qhf⟩)
  (q2v:W.codeIn K qd7 "Plank.__init__"=true)
  (q2w:W.keepIn K (.ref q7x)=true)
  (q2x:W.findIn K (.ref q7o) "blocks"=some (some (.ref q7y)))
  (q2y:W.isFn K (.ref q7y)=true)
  (q2z:K.lookup q7y=some ⟨q90,qfc,.func (W.fnOf "blocks" "Plank.blocks" (BC JZ) (A8 JZ) (AO JZ) .none qa2 qb4 qc6 qge qd8 qea),qhg⟩)
  (q30:W.codeIn K qd8 "Plank.blocks"=true)
  (q31:W.keepIn K (.ref q7y)=true)
  (q32:W.findIn K (.ref q7o) "cells"=some (some (.ref q7z)))
  (q33:W.isFn K (.ref q7z)=true)
  (q34:K.lookup q7z=some ⟨q91,qfd,.func (W.fnOf "cells" "Plank.cells" (BC J0) (A8 J0) (AO J0) .none qa3 qb5 qc7 qgf qd9 qeb),qhh⟩)
  (q35:W.codeIn K qd9 "Plank.cells"=true)
  (q36:W.keepIn K (.ref q7z)=true)
  (q37:W.findIn K (.ref q7o) "ask_for_block"=some (some (.ref q80)))
  (q38:W.isFn K (.ref q80)=true)
  (q39:K.lookup q80=some ⟨q92,qfe,.func (W.fnOf "ask_for_block" "Plank.ask_for_block" (BC J1) (A8 J1) (AO J1) .none qa4 qb6 qc8 qgg qda qec),qhi⟩)
  (q3a:W.codeIn K qda "Plank.ask_for_block"=true)
  (q3b:W.keepIn K (.ref q80)=true)
  (q3c:W.nsIn K mainGlobals "_law_cell_at"=some (some (.ref q81)))
  (q3d:K.lookup q81=some ⟨q93,qff,.func (W.fnOf "_law_cell_at" "_law_cell_at" (BC J2) (A8 J2) (AO J2) .none qa5 qb7 qc9 qgh qdb qed),qhj⟩)
  (q3e:W.codeIn K qdb "_law_cell_at"=true)
  (q3f:W.keepIn K (.ref q81)=true)
  (q3g:W.nsIn K mainGlobals "_law_pick"=some (some (.ref q82)))
  (q3h:K.lookup q82=some ⟨q94,qfg,.func (W.fnOf "_law_pick" "_law_pick" (BC J3) (A8 J3) (AO J3) .none qa6 qb8 qca qgi qdc qee),qhk⟩)
  (q3i:W.codeIn K qdc "_law_pick"=true)
  (q3j:W.keepIn K (.ref q82)=true)
  (q3k:W.findIn K (.ref q7h) "chosen"=some (some (.ref q83)))
  (q3l:W.isFn K (.ref q83)=true)
  (q3m:K.lookup q83=some ⟨q95,qfh,.func (W.fnOf "chosen" "Broom.chosen" (BC J4) (A8 J4) (AO J4) .none qa7 qb9 qcb qgj qdd qef),qhl⟩)
  (q3n:W.codeIn K qdd "Broom.chosen"=true)
  (q3o:W.keepIn K (.ref q83)=true)
  (q3p:W.findIn K (.ref q7n) "__init__"=some (some (.ref q84)))
  (q3q:W.isFn K (.ref q84)=true)
  (q3r:K.lookup q84=some ⟨q96,qfi,.func (W.fnOf "__init__" "Book.__init__" (BC IC) (A8 IC) (AO IC) .none qa8 qba qcc qgk qde qeg),qhm⟩)
  (q3s:W.codeIn K qde "Book.__init__"=true)
  (q3t:W.keepIn K (.ref q84)=true)
  (q3u:W.findIn K (.ref q7n) "blocks"=some (some (.ref q85)))
  (q3v:W.isFn K (.ref q85)=true)
  (q3w:K.lookup q85=some ⟨q97,qfj,.func (W.fnOf "blocks" "Book.blocks" (BC J5) (A8 J5) (AO J5) .none qa9 qbb qcd qgl qdf qeh),qhn⟩)
  (q3x:W.codeIn K qdf "Book.blocks"=true)
  (q3y:W.keepIn K (.ref q85)=true)
  (q3z:W.findIn K (.ref q7n) "ask_for_place"=some (some (.ref q86)))
  (q40:W.isFn K (.ref q86)=true)
  (q41:K.lookup q86=some ⟨q98,qfk,.func (W.fnOf "ask_for_place" "Book.ask_for_place" (BC J6) (A8 J6) (AO J6) .none qaa qbc qce qgm qdg qei),qho⟩)
  (q42:W.codeIn K qdg "Book.ask_for_place"=true)
  (q43:W.keepIn K (.ref q86)=true)
  (q44:W.findIn K (.ref q7n) "outcome"=some (some (.ref q87)))
  (q45:W.isFn K (.ref q87)=true)
  (q46:K.lookup q87=some ⟨q99,qfl,.func (W.fnOf "outcome" "Hold.outcome" (BC J7) (A8 J7) (AO J7) .none qab qbd qcf qgn qdh qej),qhp⟩)
  (q47:W.codeIn K qdh "Hold.outcome"=true)
  (q48:W.keepIn K (.ref q87)=true)
  (q49:W.findIn K (.ref q7o) "read"=some (some (.ref q88)))
  (q4a:W.isFn K (.ref q88)=true)
  (q4b:K.lookup q88=some ⟨q9a,qfm,.func (W.fnOf "read" "Plank.read" (BC KA) (A8 KA) (AO KA) .none qac qbe qcg qgo qdi qek),qhq⟩)
  (q4c:W.codeIn K qdi "Plank.read"=true)
  (q4d:W.keepIn K (.ref q88)=true)
  (q4e:W.findIn K (.ref q7o) "write"=some (some (.ref q89)))
  (q4f:W.isFn K (.ref q89)=true)
  (q4g:K.lookup q89=some ⟨q9b,qfn,.func (W.fnOf "write" "Plank.write" (BC KB) (A8 KB) (AO KB) .none qad qbf qch qgp qdj qel),qhr⟩)
  (q4h:W.codeIn K qdj "Plank.write"=true)
  (q4i:W.keepIn K (.ref q89)=true)
  (q4j:W.nsIn K mainGlobals "_law_value"=some (some (.ref q8a)))
  (q4k:K.lookup q8a=some ⟨q9c,qfo,.func (W.fnOf "_law_value" "_law_value" (BC KC) (A8 KC) (AO KC) .none qae qbg qci qgq qdk qem),qhs⟩)
  (q4l:W.codeIn K qdk "_law_value"=true)
  (q4m:W.keepIn K (.ref q8a)=true)
  (q4n:W.findIn K (.ref q7i) "chosen"=some (some (.ref q8b)))
  (q4o:W.isFn K (.ref q8b)=true)
  (q4p:K.lookup q8b=some ⟨q9d,qfp,.func (W.fnOf "chosen" "Fullest.chosen" (BC KD) (A8 KD) (AO KD) .none qaf qbh qcj qgr qdl qen),qht⟩)
  (q4q:W.codeIn K qdl "Fullest.chosen"=true)
  (q4r:W.keepIn K (.ref q8b)=true)
  (q4s:W.findIn K (.ref q7j) "chosen"=some (some (.ref q8c)))
  (q4t:W.isFn K (.ref q8c)=true)
  (q4u:K.lookup q8c=some ⟨q9e,qfq,.func (W.fnOf "chosen" "Round.chosen" (BC KE) (A8 KE) (AO KE) .none qag qbi qck qgs qdm qeo),qhu⟩)
  (q4v:W.codeIn K qdm "Round.chosen"=true)
  (q4w:W.keepIn K (.ref q8c)=true)
  (q4x:W.findIn K (.ref q7n) "newest"=some (some (.ref q8d)))
  (q4y:W.isFn K (.ref q8d)=true)
  (q4z:K.lookup q8d=some ⟨q9f,qfr,.func (W.fnOf "newest" "Book.newest" (BC KF) (A8 KF) (AO KF) .none qah qbj qcl qgt qdn qep),qhv⟩)
  (q50:W.codeIn K qdn "Book.newest"=true)
  (q51:W.keepIn K (.ref q8d)=true)
  (q52:W.findIn K (.ref q7n) "write"=some (some (.ref q8e)))
  (q53:W.isFn K (.ref q8e)=true)
  (q54:K.lookup q8e=some ⟨q9g,qfs,.func (W.fnOf "write" "Hold.write" (BC KG) (A8 KG) (AO KG) .none qai qbk qcm qgu qdo qeq),qhw⟩)
  (q55:W.codeIn K qdo "Hold.write"=true)
  (q56:W.keepIn K (.ref q8e)=true)
  (q57:W.nsIn K mainGlobals "_law_plank"=some (some (.ref q8f)))
  (q58:K.lookup q8f=some ⟨q9h,qft,.func (W.fnOf "_law_plank" "_law_plank" (BC GZ) (A8 GZ) (AO GZ) .none qaj qbl qcn qgv qdp qer),qhx⟩)
  (q59:W.codeIn K qdp "_law_plank"=true)
  (q5a:W.keepIn K (.ref q8f)=true)
  (q5b:W.nsIn K mainGlobals "_law_change"=some (some (.ref q8g)))
  (q5c:K.lookup q8g=some ⟨q9i,qfu,.func (W.fnOf "_law_change" "_law_change" (BC KH) (A8 KH) (AO KH) .none qak qbm qco qgw qdq qes),qhy⟩)
  (q5d:W.codeIn K qdq "_law_change"=true)
  (q5e:W.keepIn K (.ref q8g)=true)
  (q5f:W.nsIn K mainGlobals "_law_broom"=some (some (.ref q8h)))
  (q5g:K.lookup q8h=some ⟨q9j,qfv,.func (W.fnOf "_law_broom" "_law_broom" (BC KI) (A8 KI) (AO KI) .none qal qbn qcp qgx qdr qet),qhz⟩)
  (q5h:W.codeIn K qdr "_law_broom"=true)
  (q5i:W.keepIn K (.ref q8h)=true)
  (q5j:W.nsIn K mainGlobals "sweep"=some (some (.ref q8i)))
  (q5k:K.lookup q8i=some ⟨q9k,qfw,.func (W.fnOf "sweep" "sweep" (BC KJ) (A8 KJ) (AO KJ) .none qam qbo qcq qgy qds qeu),qi0⟩)
  (q5l:W.codeIn K qds "sweep"=true)
  (q5m:W.keepIn K (.ref q8i)=true)
  (q5n:W.findIn K (.ref q7n) "change"=some (some (.ref q8j)))
  (q5o:W.isFn K (.ref q8j)=true)
  (q5p:K.lookup q8j=some ⟨q9l,qfx,.func (W.fnOf "change" "Book.change" (BC KK) (A8 KK) (AO KK) .none qan qbp qcr qgz qdt qev),qi1⟩)
  (q5q:W.codeIn K qdt "Book.change"=true)
  (q5r:W.keepIn K (.ref q8j)=true)
  (q5s:W.findIn K (.ref q7n) "in_hand"=some (some (.ref q8k)))
  (q5t:W.isFn K (.ref q8k)=true)
  (q5u:K.lookup q8k=some ⟨q9m,qfy,.func (W.fnOf "in_hand" "Book.in_hand" (BC KL) (A8 KL) (AO KL) .none qao qbq qcs qh0 qdu qew),qi2⟩)
  (q5v:W.codeIn K qdu "Book.in_hand"=true)
  (q5w:W.keepIn K (.ref q8k)=true)
  (q5x:W.nsIn K mainGlobals "_law_written"=some (some (.ref q8l)))
  (q5y:K.lookup q8l=some ⟨q9n,qfz,.func (W.fnOf "_law_written" "_law_written" (BC KM) (A8 KM) (AO KM) .none qap qbr qct qh1 qdv qex),qi3⟩)
  (q5z:W.codeIn K qdv "_law_written"=true)
  (q60:W.keepIn K (.ref q8l)=true)
  (q61:W.nsIn K mainGlobals "_law_by_turns"=some (some (.ref q8m)))
  (q62:K.lookup q8m=some ⟨q9o,qg0,.func (W.fnOf "_law_by_turns" "_law_by_turns" (BC KN) (A8 KN) (AO KN) .none qaq qbs qcu qh2 qdw qey),qi4⟩)
  (q63:W.codeIn K qdw "_law_by_turns"=true)
  (q64:W.keepIn K (.ref q8m)=true)
  (q65:W.nsIn K mainGlobals "_law_same"=some (some (.ref q8n)))
  (q66:K.lookup q8n=some ⟨q9p,qg1,.func (W.fnOf "_law_same" "_law_same" (BC GB) (A8 GB) (AO GB) .none qar qbt qcv qh3 qdx qez),qi5⟩)
  (q67:W.codeIn K qdx "_law_same"=true)
  (q68:W.keepIn K (.ref q8n)=true)
  (q69:W.nsIn K mainGlobals "_law_both"=some (some (.ref q8o)))
  (q6a:K.lookup q8o=some ⟨q9q,qg2,.func (W.fnOf "_law_both" "_law_both" (BC KO) (A8 KO) (AO KO) .none qas qbu qcw qh4 qdy qf0),qi6⟩)
  (q6b:W.codeIn K qdy "_law_both"=true)
  (q6c:W.keepIn K (.ref q8o)=true)
  (q6d:W.nsIn K mainGlobals "_law_shows"=some (some (.ref q8p)))
  (q6e:K.lookup q8p=some ⟨q9r,qg3,.func (W.fnOf "_law_shows" "_law_shows" (BC KP) (A8 KP) (AO KP) .none qat qbv qcx qh5 qdz qf1),qi7⟩)
  (q6f:W.codeIn K qdz "_law_shows"=true)
  (q6g:W.keepIn K (.ref q8p)=true)
  (q6h:W.nsIn K mainGlobals "law"=some (some (.ref q8q)))
  (q6i:K.lookup q8q=some ⟨q9s,qg4,.func (W.fnOf "law" "law" (BC GC) (A8 GC) (AO GC) .none qau qbw qcy qh6 qe0 qf2),qi8⟩)
  (q6j:W.codeIn K qe0 "law"=true)
  (q6k:W.keepIn K (.ref q8q)=true)
  (q6l:W.findIn K (.ref q7n) "waiting"=some (some (.ref q7r)))
  (q6m:W.findIn K (.ref q7n) "block_of"=some (some (.ref q7s)))
  (q6n:W.findIn K (.ref q7n) "blocks"=some (some (.ref q85)))
  (q6o:W.findIn K (.ref q7n) "newest"=some (some (.ref q8d)))
  (q6p:W.findIn K (.ref q7n) "ask_for_changes"=some (some (.ref q7t)))
  (q6q:W.findIn K (.ref q7n) "ask_for_place"=some (some (.ref q86)))
  (q6r:W.findIn K (.ref q7n) "change"=some (some (.ref q8j)))
  (q6s:W.findIn K (.ref q7n) "in_hand"=some (some (.ref q8k)))
  (q6t:W.findIn K (.ref q7n) "__init__"=some (some (.ref q84)))
  (q6u:W.findIn K (.ref q7o) "contents"=some none)
  (q6v:W.findIn K (.ref q7o) "width"=some none)
  (q6w:W.findIn K (.ref q7o) "written"=some none)
  (q6x:W.findIn K (.ref q7n) "ground"=some none)
  (q6y:W.findIn K (.ref q7n) "made"=some none)
  (q6z:W.findIn K (.ref q7n) "made_in"=some none)
  (q70:W.findIn K (.ref q7n) "latest"=some none)
  (q71:W.findIn K (.ref q7n) "outs"=some none)
  (q72:W.findIn K (.ref q7m) "place"=some none)
  (q73:W.findIn K (.ref q7m) "value"=some none)
  (q74:W.findIn K (.ref q7m) "needs"=some none)
  (q75:W.findIn K (.ref q7j) "turns"=some none)
  (q76:W.specialIn K (.builtin "object.__class__") "__get__"=some (some (.builtin "getset_descriptor.__get__")))
  (q77:W.takesIn K (.builtin "object.__class__")=some true)
  (q78:W.findIn K (.ref q7h) "__class__"=some (some (.builtin "object.__class__")))
  (q79:W.mroIn K q7h (.type "object")=some true)
  (q7a:W.kitOne K (.ref q7h) (.ref q7h)=some true)
  (q7b:W.findIn K (.ref q7i) "__class__"=some (some (.builtin "object.__class__")))
  (q7c:W.mroIn K q7i (.type "object")=some true)
  (q7d:W.kitOne K (.ref q7i) (.ref q7h)=some true)
  (q7e:W.findIn K (.ref q7j) "__class__"=some (some (.builtin "object.__class__")))
  (q7f:W.mroIn K q7j (.type "object")=some true)
  (q7g:W.kitOne K (.ref q7j) (.ref q7h)=some true) :
  ∃ fd:FuncData,(∀ (s:Shared) (v:Value),BindsTo s fd ⟨[v],[]⟩ [("script",v)])/\∀ base:Heap,K.In base->base.Ns mainGlobals mg->FnOk l.prog w K mg base (CQ l.prog w) 11 fa fd ["script"] (T3 K):=by
 obtain⟨a,rfl,rfl,rfl,rfl,rfl,rfl,rfl,rfl⟩:=Jg q7h q7i q7j q7k q7l q7m q7n q7o
 have e:=hfa.symm.trans (W.mg_of X G q6h)
 cases e
 have T:Txt K mg a:=⟨⟨q8,q9,qa,qb⟩,⟨qc,qd,qe,qf⟩,⟨qg,qh,qi,qj⟩,⟨qk,ql,qm,qn⟩,⟨qo,qp,qq,qr⟩,⟨qs,qt,qu,qv⟩,⟨qw,qy,qx,W.mg_of X G q0⟩,⟨qz,q11,q10,W.mg_of X G q1⟩,W.mg_of X G q3,⟨_,W.mg_of X G q3,rfl⟩,⟨q1a⟩,W.mg_of X G q4,⟨_,W.mg_of X G q4,rfl⟩,⟨q1b⟩,W.mg_none_of X G q1c,W.mg_none_of X G q1d,W.mg_none_of X G q1e,W.mg_none_of X G q1f,W.mg_none_of X G q1g,W.mg_none_of X G q1h,W.mg_none_of X G q1i,W.mg_none_of X G q1j,W.mg_none_of X G q1k,W.mg_none_of X G q1l,W.mg_none_of X G q1m,W.mg_none_of X G q1n,W.mg_none_of X G q1o⟩
 have TPk:CW K a:=⟨T.EO,q6u,q6v,q6w⟩
 have TBk:XY K (a "Hold") (a "Change"):=⟨T.CM,q6x,q6y,q6z,q70,q71,T.Kq,q72,q73,q74⟩
 have TXX:TX K a:=⟨T.UD,q75,λe=>.ins e T.fT q78 q76 q77 q79,λe=>.ins e T.fU q7b q76 q77 q7c,λe=>.ins e T.UD q7e q76 q77 q7f,q7a,q7d,q7g⟩
 have qi9:=BL (st:=JS) q1r q1s q1t
 have qjb:=qi9.binds (ps:=["self"]) λ_ _ _ _ _ _=>G0 λ_=>rfl
 have qia:=BL (st:=JT) q1w q1x q1y
 have qjc:=qia.binds (ps:=["self","place","value","needs"]) λ_ _ _ _ _ _=>T2 λ_ _ _ _=>rfl
 have qib:=BL (st:=IA) q21 q22 q23
 have qjd:=qib.binds (ps:=["self"]) λ_ _ _ _ _ _=>G0 λ_=>rfl
 have qic:=BL (st:=JU) q26 q27 q28
 have qje:=qic.binds (ps:=["self","number"]) λ_ _ _ _ _ _=>DJ λ_ _=>rfl
 have qid:=BL (st:=JV) q2b q2c q2d
 have qjf:=qid.binds (ps:=["self","numbers"]) λ_ _ _ _ _ _=>DJ λ_ _=>rfl
 have qie:=BL (st:=JW) q2f q2g q2h
 have qjg:=qie.binds (ps:=["needs","ahead"]) λ_ _ _ _ _ _=>DJ λ_ _=>rfl
 have qif:=BL (st:=JX) q2k q2l q2m
 have qjh:=qif.binds (ps:=["self","number","gone"]) λ_ _ _ _ _ _=>GE λ_ _ _=>rfl
 have qig:=BL (st:=JY) q2p q2q q2r
 have qji:=qig.binds (ps:=["self","values","block"]) λ_ _ _ _ _ _=>GE λ_ _ _=>rfl
 have qih:=BL (st:=IB) q2u q2v q2w
 have qjj:=qih.binds (ps:=["self","blocks","cells"]) λ_ _ _ _ _ _=>GE λ_ _ _=>rfl
 have qii:=BL (st:=JZ) q2z q30 q31
 have qjk:=qii.binds (ps:=["self"]) λ_ _ _ _ _ _=>G0 λ_=>rfl
 have qij:=BL (st:=J0) q34 q35 q36
 have qjl:=qij.binds (ps:=["self"]) λ_ _ _ _ _ _=>G0 λ_=>rfl
 have qik:=BL (st:=J1) q39 q3a q3b
 have qjm:=qik.binds (ps:=["self","block"]) λ_ _ _ _ _ _=>DJ λ_ _=>rfl
 have qil:=BL (st:=J2) q3d q3e q3f
 have qjn:=qil.binds (ps:=["script","k"]) λ_ _ _ _ _ _=>DJ λ_ _=>rfl
 have qim:=BL (st:=J3) q3h q3i q3j
 have qjo:=qim.binds (ps:=["cell","prime","many"]) λ_ _ _ _ _ _=>GE λ_ _ _=>rfl
 have qin:=BL (st:=J4) q3m q3n q3o
 have qjp:=qin.binds (ps:=["self","hold"]) λ_ _ _ _ _ _=>DJ λ_ _=>rfl
 have qio:=BL (st:=IC) q3r q3s q3t
 have qjq:=qio.binds (ps:=["self","plank"]) λ_ _ _ _ _ _=>DJ λ_ _=>rfl
 have qip:=BL (st:=J5) q3w q3x q3y
 have qjr:=qip.binds (ps:=["self"]) λ_ _ _ _ _ _=>G0 λ_=>rfl
 have qiq:=BL (st:=J6) q41 q42 q43
 have qjs:=qiq.binds (ps:=["self","place"]) λ_ _ _ _ _ _=>DJ λ_ _=>rfl
 have qir:=BL (st:=J7) q46 q47 q48
 have qjt:=qir.binds (ps:=["self","block","taken"]) λ_ _ _ _ _ _=>GE λ_ _ _=>rfl
 have qis:=BL (st:=KA) q4b q4c q4d
 have qju:=qis.binds (ps:=["self","block"]) λ_ _ _ _ _ _=>DJ λ_ _=>rfl
 have qit:=BL (st:=KB) q4g q4h q4i
 have qjv:=qit.binds (ps:=["self","block","values"]) λ_ _ _ _ _ _=>GE λ_ _ _=>rfl
 have qiu:=BL (st:=KC) q4k q4l q4m
 have qjw:=qiu.binds (ps:=["cell"]) λ_ _ _ _ _ _=>G0 λ_=>rfl
 have qiv:=BL (st:=KD) q4p q4q q4r
 have qjx:=qiv.binds (ps:=["self","hold"]) λ_ _ _ _ _ _=>DJ λ_ _=>rfl
 have qiw:=BL (st:=KE) q4u q4v q4w
 have qjy:=qiw.binds (ps:=["self","hold"]) λ_ _ _ _ _ _=>DJ λ_ _=>rfl
 have qix:=BL (st:=KF) q4z q50 q51
 have qjz:=qix.binds (ps:=["self","place"]) λ_ _ _ _ _ _=>DJ λ_ _=>rfl
 have qiy:=BL (st:=KG) q54 q55 q56
 have qk0:=qiy.binds (ps:=["self","block"]) λ_ _ _ _ _ _=>DJ λ_ _=>rfl
 have qiz:=BL (st:=GZ) q58 q59 q5a
 have qk1:=qiz.binds (ps:=["cell","size"]) λ_ _ _ _ _ _=>DJ λ_ _=>rfl
 have qj0:=BL (st:=KH) q5c q5d q5e
 have qk2:=qj0.binds (ps:=["cell","size","count"]) λ_ _ _ _ _ _=>GE λ_ _ _=>rfl
 have qj1:=BL (st:=KI) q5g q5h q5i
 have qk3:=qj1.binds (ps:=["kind"]) λ_ _ _ _ _ _=>G0 λ_=>rfl
 have qj2:=BL (st:=KJ) q5k q5l q5m
 have qk4:=qj2.binds (ps:=["hold","broom"]) λ_ _ _ _ _ _=>DJ λ_ _=>rfl
 have qj3:=BL (st:=KK) q5p q5q q5r
 have qk5:=qj3.binds (ps:=["self","place","value","needs"]) λ_ _ _ _ _ _=>T2 λ_ _ _ _=>rfl
 have qj4:=BL (st:=KL) q5u q5v q5w
 have qk6:=qj4.binds (ps:=["self","place"]) λ_ _ _ _ _ _=>DJ λ_ _=>rfl
 have qj5:=BL (st:=KM) q5y q5z q60
 have qk7:=qj5.binds (ps:=["hold","block","side"]) λ_ _ _ _ _ _=>GE λ_ _ _=>rfl
 have qj6:=BL (st:=KN) q62 q63 q64
 have qk8:=qj6.binds (ps:=["hold","side","turn","blocks"]) λ_ _ _ _ _ _=>T2 λ_ _ _ _=>rfl
 have qj7:=BL (st:=GB) q66 q67 q68
 have qk9:=qj7.binds (ps:=["found","due"]) λ_ _ _ _ _ _=>DJ λ_ _=>rfl
 have qj8:=BL (st:=KO) q6a q6b q6c
 have qka:=qj8.binds (ps:=["holds","sides","cell","size","places"]) λ_ _ _ _ _ _=>Jh λ_ _ _ _ _=>rfl
 have qj9:=BL (st:=KP) q6e q6f q6g
 have qkb:=qj9.binds (ps:=["plank","rows","places"]) λ_ _ _ _ _ _=>GE λ_ _ _=>rfl
 have qja:=BL (st:=GC) q6i q6j q6k
 have qkc:=qja.binds (ps:=["script"]) λ_ _ _ _ _ _=>G0 λ_=>rfl
 refine⟨W.fnOf "law" "law" (BC GC) (A8 GC) (AO GC) .none qau qbw qcy qh6 qe0 qf2,λs v=>.of_eq rfl,λbase _ _=> ?_⟩
 have qkd:=Ep l.prog w base T qi9
 have qke:=Ew l.prog w base T qia
 have qkf:=Ey l.prog w base T qib
 have qkg:=Fb l.prog w base T qic
 have qkh:=Fc l.prog w base T qid
 have qki:=Fg l.prog w base T qie
 have qkj:=Fh l.prog w base T qif
 have qkk:=Fj l.prog w base T qig
 have qkl:=Fl l.prog w base T qih
 have qkm:=Fp l.prog w base T qii
 have qkn:=Fv l.prog w base T qij
 have qko:=Fx l.prog w base T qik
 have qkp:=Fz l.prog w base T qil
 have qkq:=Gb l.prog w base T qim
 have qkr:=Gd l.prog w base T qin ⟨_,_,qkf,⟨q6l,q20,q23⟩,qjd⟩ ⟨_,_,qkg,⟨q6m,q25,q28⟩,qje⟩
 have qks:=Gh l.prog w base T qio ⟨_,_,qkm,⟨q2x,q2y,q31⟩,qjk⟩
 have qkt:=Gk l.prog w base T qip ⟨_,_,qkm,⟨q2x,q2y,q31⟩,qjk⟩
 have qku:=Gp l.prog w base T qiq ⟨_,_,qkn,⟨q32,q33,q36⟩,qjl⟩ ⟨_,_,qkm,⟨q2x,q2y,q31⟩,qjk⟩
 have qkv:=Gq l.prog w base T qir ⟨_,_,qkj,⟨q2i,q2j,q2m⟩,qjh⟩
 have qkw:=Gw l.prog w base T qis ⟨_,_,qko,⟨q37,q38,q3b⟩,qjm⟩
 have qkx:=Gy l.prog w base T qit ⟨_,_,qko,⟨q37,q38,q3b⟩,qjm⟩
 have qky:=Gz l.prog w base T qiu ⟨_,_,qkq,W.mg_of X G q3g,q3j,qjo⟩
 have qkz:=Hb l.prog w base T qiv ⟨_,_,qkt,⟨q6n,q3v,q3y⟩,qjr⟩ ⟨_,_,qkv,⟨q44,q45,q48⟩,qjt⟩
 have ql0:=Hc l.prog w base T qiw ⟨_,_,qkt,⟨q6n,q3v,q3y⟩,qjr⟩
 have ql1:=Hg l.prog w base T qix ⟨_,_,qku,⟨q6q,q40,q43⟩,qjs⟩
 have ql2:=Hh l.prog w base T qiy ⟨_,_,qkw,⟨q49,q4a,q4d⟩,qju⟩ ⟨_,_,qkv,⟨q44,q45,q48⟩,qjt⟩ ⟨_,_,qkk,⟨q2n,q2o,q2r⟩,qji⟩ ⟨_,_,qkx,⟨q4e,q4f,q4i⟩,qjv⟩
 have ql3:=Hj l.prog w base T qiz ⟨_,_,qkl,⟨q16,q2s,q2t,q17⟩,W.mg_of X G q7,qjj⟩ ⟨_,_,qkq,W.mg_of X G q3g,q3j,qjo⟩ ⟨_,_,qky,W.mg_of X G q4j,q4m,qjw⟩ ⟨_,_,qkx,⟨q4e,q4f,q4i⟩,qjv⟩
 have ql4:=Hk l.prog w base T qj0 ⟨_,_,qkq,W.mg_of X G q3g,q3j,qjo⟩ ⟨_,_,qky,W.mg_of X G q4j,q4m,qjw⟩
 have ql5:=Hm l.prog w base T qj1 ⟨_,_,qkd,⟨q18,q1p,q1q,q19⟩,W.mg_of X G q2,qjb⟩
 have ql6:=Hq l.prog w base T qj2 ⟨_,_,qkf,⟨q6l,q20,q23⟩,qjd⟩ ⟨_,_,qkr,⟨q3k,q3l,q3o⟩,qjp⟩ ⟨_,_,qkz,⟨q4n,q4o,q4r⟩,qjx⟩ ⟨_,_,ql0,⟨q4s,q4t,q4w⟩,qjy⟩ ⟨_,_,ql2,⟨q52,q53,q56⟩,qk0⟩
 have ql7:=Hv l.prog w base T qj3 ⟨_,_,ql1,⟨q6o,q4y,q51⟩,qjz⟩ ⟨_,_,qkh,⟨q6p,q2a,q2d⟩,qjf⟩ ⟨_,_,qki,W.mg_of X G q2e,q2h,qjg⟩ ⟨_,_,qke,⟨q12,q1u,q1v,q13⟩,W.mg_of X G q5,qjc⟩
 have ql8:=Hw l.prog w base T qj4 ⟨_,_,ql1,⟨q6o,q4y,q51⟩,qjz⟩ ⟨_,_,qkw,⟨q49,q4a,q4d⟩,qju⟩
 have ql9:=Hx l.prog w base T qj5 ⟨_,_,ql2,⟨q52,q53,q56⟩,qk0⟩
 have qla:=Hy l.prog w base T qj6 ⟨_,_,qkf,⟨q6l,q20,q23⟩,qjd⟩ ⟨_,_,ql9,W.mg_of X G q5x,q60,qk7⟩
 have qnf:∀ n:Nat,FnOk l.prog w K mg base (CQ l.prog w) (n+1) q8n (W.fnOf "_law_same" "_law_same" (BC GB) (A8 GB) (AO GB) .none qar qbt qcv qh3 qdx qez) ["found","due"] (DY K a n):=by
  intro n
  induction n with
  | zero=>exact qj7.none OE (λ_ _ _ _ h=>Cb h)
  | succ n ih =>
   have qmd:=ih
   exact(by have z:=Hz l.prog w base T qj7 ⟨_,_,qmd,W.mg_of X G q65,q68,qk9⟩;rw[show n+1+1=n+1+1 from by omega];exact z)
 have qlb:FnOk l.prog w K mg base (CQ l.prog w) 9 q8n _ ["found","due"] (DY K a 8):=(qnf 8)
 have qlc:=Jb l.prog w base T qj8 ⟨_,_,ql4,W.mg_of X G q5b,q5e,qk2⟩ ⟨_,_,ql7,⟨q6r,q5o,q5r⟩,qk5⟩ ⟨_,_,qkq,W.mg_of X G q3g,q3j,qjo⟩ ⟨_,_,ql9,W.mg_of X G q5x,q60,qk7⟩ ⟨_,_,ql8,⟨q6s,q5t,q5w⟩,qk6⟩ ⟨_,_,qlb,W.mg_of X G q65,q68,qk9⟩
 have qld:=Jc l.prog w base T qj9 ⟨_,_,qkw,⟨q49,q4a,q4d⟩,qju⟩ ⟨_,_,qlb,W.mg_of X G q65,q68,qk9⟩
 have qle:=Jd l.prog w base T qja ⟨_,_,qkp,W.mg_of X G q3c,q3f,qjn⟩ ⟨_,_,qkq,W.mg_of X G q3g,q3j,qjo⟩ ⟨_,_,ql3,W.mg_of X G q57,q5a,qk1⟩ ⟨_,_,qks,⟨q14,q6t,q3q,q15⟩,W.mg_of X G q6,qjq⟩ ⟨_,_,qlc,W.mg_of X G q69,q6c,qka⟩ ⟨_,_,ql8,⟨q6s,q5t,q5w⟩,qk6⟩ ⟨_,_,qlb,W.mg_of X G q65,q68,qk9⟩ ⟨_,_,ql5,W.mg_of X G q5f,q5i,qk3⟩ ⟨_,_,ql6,W.mg_of X G q5j,q5m,qk4⟩ ⟨_,_,qla,W.mg_of X G q61,q64,qk8⟩ ⟨_,_,qkf,⟨q6l,q20,q23⟩,qjd⟩ ⟨_,_,qld,W.mg_of X G q6d,q6g,qkb⟩
 exact qle.imp (λvs H Q E ⟨s,ns,e,hs,hn,q⟩=>⟨s,ns,e,⟨TBk,TPk,TXX⟩,hs,hn,q⟩)
theorem walk{l:W.OpenLaw}{q:Program}{loose:List Str}{XP:(Str->Option Value)->Heap->Prop}{YP:World->Heap->Prop}{d:DefRec}{K:Params->W.Frag}(hn:l.most=some 63)(hdf:d.params.defaults=[])
  (hY:∀ (w:World) (h:Heap),YP w h->(K w.params).In h)
  (F:∀ (w:World) (mg:Str->Option Value) (fa:Addr) (h:Heap),(K w.params).In h->h.Ns mainGlobals mg->mg d.name=some (.ref fa) →
   ∃ fd:FuncData,(∀ (s:Shared) (u:Value),BindsTo s fd ⟨[u],[]⟩ [("script",u)])/\∀ base:Heap,(K w.params).In base->base.Ns mainGlobals mg->FnOk l.prog w (K w.params) mg base (CQ l.prog w) 11 fa fd ["script"] (T3 (K w.params))) :
  W.WalkO q loose XP YP l.row.toRowW d [] (λf vs=>PySem.call f vs) :=
 L2.walk_of (n:=63) (k:=11) (x:="script") (CX:=λw=>CQ l.prog w) (sp:=λw=>T3 (K w.params)) hn (by decide) hdf ⟨rfl,by decide,by decide⟩ hY F (λ_ _ a ns hl _ hS=>⟨a,ns,rfl,hS,hl,λ_=>rfl⟩) λ_ _ _ _ _ z=>WJ z
end L2
namespace PySem.W.Fast
def tw14362790259596782366:=()
def tw2605941536417011453:=()
def tw7363557422197311704:=()
def tw445996043598754920:=()
def tw15539805436764294734:=()
def tw6257785494195390858:=()
def tw14652979455901941705:=()
def tw16978190877701956395:=()
def tw6641159625096012592:=()
def tw2037042369237456949:=()
def tw16307530876407916694:=()
def tw1994239729127008779:=()
def tw16109367238117162697:=()
def tw11764885359542556138:=()
def tw15822474596056433483:=()
def tw1552523592026338184:=()
def tw7558748785465169819:=()
def tw7063723541479581974:=()
def tw11602090260393983085:=()
def tw11830590511335763518:=()
def tw6732701318912486566:=()
def tw4172580103296838477:=()
def tw6241150302325862751:=()
def tw6218144553317018821:=()
def tw7259272153590819234:=()
def tw374436517473582596:=()
def tw10787076611280481873:=()
def tw15755084188458015561:=()
def tw2865679335019385660:=()
def tw4016475032384848325:=()
def tw4481292477983266504:=()
def tw7121802005549362409:=()
def tw8695000023248334687:=()
def tw6939058018508392064:=()
def tw15858675953047874291:=()
def tw1121255568915320330:=()
def tw286490124927570368:=()
def tw13972585183333120796:=()
def tw4855390159233341921:=()
def tw1602607459941509304:=()
def tw2379700275272826083:=()
def tw16289470962552267600:=()
def tw9561395362081526699:=()
def tw5550454002302566745:=()
def tw14088267354280858030:=()
def tw12379378550893295212:=()
def tw3309496557221514159:=()
def tw3794553864741945142:=()
def tw9724955288450339823:=()
def tw2753231863791188341:=()
def tw9513923237778115169:=()
def tw7595157327303467228:=()
def tw13881345137088847531:=()
def tw16737634715437504625:=()
def tw4246220019422634932:=()
def tw4971411560213156952:=()
def tw4686147989042986234:=()
def tw971112350865553024:=()
def tw13635291918432632267:=()
def tw16610108851016882824:=()
def tw788825893082379410:=()
def tw5696043259535049245:=()
def tw953531147193629076:=()
def tw2638689869043591832:=()
def tw2793911482778001147:=()
def tw17188392551384755920:=()
def tw3638660627003434953:=()
def tw16269558128766070799:=()
def tw1779743960313858185:=()
def tw2318644854169140601:=()
def tw14529907852690214453:=()
def tw814914463364805427:=()
def tw10172130763478089758:=()
def tw17679490751059467882:=()
def tw11363785567901383115:=()
def tw460600822686859410:=()
def tw11524566732027805524:=()
def tw11737504470746663324:=()
def tw6227225352879735454:=()
def tw10563192093298829913:=()
def tw12310699836775529653:=()
def tw3649429374927977781:=()
def tw10923480119399001789:=()
def tw16131551091226699804:=()
def tw8099265276276690598:=()
def tw1774596342527635906:=()
def tw3973078342825148311:=()
def tw14511210298792295962:=()
def tw4069526536853833611:=()
def tw13233658233533412103:=()
def tw17028979514990148619:=()
def tw6416015906986528056:=()
def tw17602838090968499135:=()
def tw12183659398700767561:=()
def tw17634302542492863688:=()
def tw2094894176708177878:=()
def tw14443256698686184167:=()
def tw205390693396090775:=()
def tw5217795124854802493:=()
def tw3771445829148769553:=()
def tw10783510738660016557:=()
def tw3595685755938611241:=()
def tw9680301668587669957:=()
def tw9499040513739074930:=()
def tw7900735665858013613:=()
def tw17231797517369498353:=()
def tw17324727941266750191:=()
def tw1196307476496913436:=()
def tw602419406756794069:=()
def tw15189419223709095319:=()
def tw2511848991380270735:=()
def tw10552339273773994059:=()
def tw1844549750105085678:=()
def tw10073065867581142593:=()
def tw17074618818867143601:=()
def tw8956964065361497334:=()
def tw3063988040657911657:=()
def tw2659482607319496739:=()
def tw3721776969185493316:=()
def tw12561747118188832740:=()
def tw3031102505000881434:=()
def tw6309032784624494288:=()
def tw1175883954648678834:=()
def tw14564700829932579216:=()
def tw16300039304267034808:=()
def tw16268568329097701905:=()
def tw15062243405682173146:=()
def tw14221121665665812212:=()
def tw2711079223668267108:=()
def tw1780567290750020584:=()
def tw12877874751642577088:=()
def tw4888049172410303069:=()
def tw17042822572492266535:=()
def tw10091269368114690854:=()
def tw7015322840383772274:=()
def tw15631995734549343550:=()
def tw3759840610279702760:=()
def tw2444929161819320513:=()
def tw5311173951632662135:=()
def tw16326446606408375696:=()
def tw16674014904337372074:=()
def tw4581394151755338473:=()
def tw4555970377786087637:=()
def tw12696402519568674903:=()
def tw8969905004526582657:=()
def tw16088632706461675128:=()
def tw12204933961702601952:=()
def tw3399845505025632279:=()
def tw18254576628234116630:=()
def tw1808240406369021222:=()
def tw16435686034345477550:=()
def tw6077220832097216497:=()
def tw13603954164902486063:=()
def tw4608779645730734519:=()
def tw5772125442306963689:=()
def tw6128793292920618300:=()
def tw2509294060366378318:=()
def tw4272850062168556421:=()
def tw10636258909449647884:=()
def tw8985706438061869952:=()
def tw15979545085328523445:=()
def tw1829806295653928147:=()
def tw16619589009638056875:=()
def tw8209821348240932961:=()
def tw16576273532535032960:=()
def tw17173008447116537604:=()
def tw7900688748588108699:=()
def tw11897152563850375996:=()
def tw5526739138756013343:=()
def tw9045143390254948398:=()
def tw4406523845458569929:=()
def tw11260667398816800551:=()
def tw17374440881605720286:=()
def tw10851465269294807299:=()
def tw13604821912414289309:=()
def tw211876791027780460:=()
def tw18118422999677339807:=()
def tw15251253142578167255:=()
def tw18113848861315692338:=()
def tw2042068817677746978:=()
def tw17153377723752964451:=()
def tw13161552367125324395:=()
def tw11865768852820913404:=()
def tw12620449786340012447:=()
def tw1648294780385358582:=()
def tw8314444292367463812:=()
def tw18216007624345561532:=()
def tw7774998519134692885:=()
def tw16825121724643887125:=()
def tw15805803807359067604:=()
def tw193838822645991074:=()
def tw17027507361909795824:=()
def tw7927938160633071407:=()
def tw9528515010809433184:=()
def tw13581970910735496097:=()
def tw15862117622702241576:=()
def tw13361764856259770949:=()
def tw16197425909899051409:=()
def tw17209149088237296307:=()
def tw3580524239814166427:=()
def tw3712548526100378612:=()
def tw11432979948368851065:=()
def tw848305838347780719:=()
def tw17213613302723579257:=()
def tw8117780355574477753:=()
def tw10871021062951310262:=()
def tw7671866637491318354:=()
def tw12452623630726325581:=()
def tw12307811463211588298:=()
def tw13516828646164814440:=()
def tw7734290042711436495:=()
def tw9166596877028511035:=()
def tw15670470680304899088:=()
def tw1658561131479917089:=()
def tw11711502692019509258:=()
def tw13811465434194305279:=()
def tw3646985640350267113:=()
def tw11390007284774829057:=()
def tw10185496153541395114:=()
def tw16185700885096712123:=()
def tw16648508928070515474:=()
def tw2414685206109228943:=()
def tw17258906945739731184:=()
def tw15116901431703249705:=()
def tw1823904304034226175:=()
def tw6504096876501127872:=()
def tw16098750515003960097:=()
def tw9986281078028498215:=()
def tw11969386586069326937:=()
def tw7857812788949776553:=()
def tw15580353884418543791:=()
def tw9747850040801022458:=()
def tw8296804394373811345:=()
def tw11577657514408834350:=()
def tw1287726091752226679:=()
def tw15032697590623891176:=()
def tw3438025819758661882:=()
def tw16799264546453184844:=()
def tw7026510936269589176:=()
def tw4948052375408811193:=()
def tw6277823059287047922:=()
def tw5291857954307493681:=()
def tw12749213003404827567:=()
def tw1806580466206886153:=()
def tw3798840317350395613:=()
def tw9925487327814446833:=()
def tw18267233226483252655:=()
def tw11304775914122524725:=()
def tw6654049538385560431:=()
def tw4596114909960739203:=()
def tw5642084911965091069:=()
def tw1615057431114741635:=()
def tw15335309373029579288:=()
def tw17091509036038268268:=()
def tw15898550179845276984:=()
def tw11586347860327857647:=()
def tw5410534677745808820:=()
def tw3378072761714241909:=()
def tw16305101300704965680:=()
def tw17057301673004629932:=()
def tw5893028461261940373:=()
def tw7759610238389028298:=()
def tw16160175364936063492:=()
def tw2209614093768280774:=()
def tw374637581756323381:=()
def tw8083465582865716145:=()
def tw6762229077174290864:=()
def tw3285106750764789823:=()
def tw14179539934546133418:=()
def tw9400648143449719552:=()
def tw10377666137833732136:=()
def tw13190904738068784426:=()
def tw5788275718796113609:=()
def tw13006091361137364760:=()
def tw18417505563703215498:=()
def tw8771201375514018391:=()
def tw6898900029152754178:=()
def tw16823599534946706761:=()
def tw16293008590041965238:=()
def tw17367359199947017324:=()
def tw5375223206681908794:=()
def tw2221606551531111566:=()
def tw8952914493970529830:=()
def tw5483505476941540212:=()
def tw2709141815159920538:=()
def tw17486954778685372582:=()
def tw905036333462322996:=()
def tw2872818094380639140:=()
def tw7797253304690367305:=()
def tw5903044668518369845:=()
def tw6006741372027877016:=()
def tw3647198796266178272:=()
def tw5489450243794045852:=()
def tw1727567331982710188:=()
def tw11077343370927545532:=()
def tw6980789128035119284:=()
def tw16956804780940479146:=()
def tw17604409720081411561:=()
def tw7037567355473206057:=()
def tw17879192150253716422:=()
def tw9525753585685462773:=()
def tw9617744376250806090:=()
def tw17767633920410589640:=()
def tw17381726356451395139:=()
def tw8431409613483993236:=()
def tw9529198854320385378:=()
def tw11065383211021620527:=()
def tw2305916715301295471:=()
def tw740249485738771137:=()
def tw1064978861313839652:=()
def tw13713686598916934961:=()
def tw4525143317572243683:=()
def tw6397193579143262251:=()
def tw14744513540337126795:=()
def tw12225887199826780000:=()
def tw9521485141253033656:=()
def tw2014955878329037064:=()
def tw8623060277661162261:=()
def tw14704732657303783094:=()
def tw3596273268381621478:=()
def tw15957468271910101350:=()
def tw16233331173757841130:=()
def tw10595446643658071791:=()
def tw1010392697308827410:=()
def tw7577253496881056844:=()
def tw1330412397640522950:=()
def tw386621642673908536:=()
def tw2313925229956677207:=()
def tw16565008106531648910:=()
def tw16177328758584184116:=()
def tw17963806847622226608:=()
def tw1792114860780748674:=()
def tw17871482534942655546:=()
def tw4769200893705872257:=()
def tw9195409035559252123:=()
def tw16566085582059629408:=()
def tw6303157420289584320:=()
def tw8518682693147527727:=()
def tw14269488435657943361:=()
def tw4090047676550575225:=()
def tw7697731594134917325:=()
def tw9642503635778839539:=()
def tw5487122315678405476:=()
def tw13691141957421067756:=()
def tw3534378600011677417:=()
def tw5909855463233486945:=()
def tw2340827555006804239:=()
def tw6331888478841154220:=()
def tw17310838163224860609:=()
def tw8671151431317643492:=()
def tw7155896865523365669:=()
def tw13467469225571623227:=()
def tw5070583735420885037:=()
def tw14280507996656269191:=()
def tw1521832556465420470:=()
def tw1548314184318551846:=()
def tw15650135703744019455:=()
def tw183997148934639842:=()
def tw6349702634326926750:=()
def tw12827260349607154830:=()
def tw9485454059707118583:=()
def tw7628166278628261704:=()
def tw559233449704764004:=()
def tw16411937674622026278:=()
def tw4732855542990046834:=()
def tw3832395283173049067:=()
def tw6415843836916257730:=()
def tw3582303293529743735:=()
def tw1181878975682622233:=()
def tw2319973447905899008:=()
def tw10861380745445738418:=()
def tw9481896469401477057:=()
def tw3498539306848952332:=()
def tw1373376191387894140:=()
def tw12502486567246476451:=()
def tw13037161970950971310:=()
def tw949215854723018361:=()
def tw17948226523507169252:=()
def tw8425305653117835914:=()
def tw9109661191605158090:=()
def tw8685976228703831387:=()
def tw5659038060849212516:=()
def tw15445565696161272327:=()
def tw5550154070392125258:=()
def tw15238022260643187821:=()
def tw3245329326092156004:=()
def tw1183791429782431756:=()
def tw7983185301845615449:=()
def tw11548769024965847427:=()
def tw15191634110408756253:=()
def tw17354202078954185844:=()
def tw7432803000302814128:=()
def tw9862407232247071186:=()
def tw3598847102593308336:=()
def tw11090392960288119114:=()
def tw13573069707637964998:=()
def tw14298839239129762997:=()
def tw562830656829145129:=()
def tw2038123541887567551:=()
end PySem.W.Fast
open PySem PySem.W PyProof.Rows
set_option Elab.async false
set_option maxRecDepth 100000 in
set_option maxHeartbeats 0 in
theorem PySem.Challenge.cw_holdback_k26_whole_one_plank_at_last_holds : PySem.Challenge.rw_holdback_k26_whole_one_plank_at_last.Holds := by
 w_on;o_law;k_head;(case hw=>w_witness2)
 k_fill
 refine L2.walk (l:=PySem.Challenge.rw_holdback_k26_whole_one_plank_at_last) rfl rfl (λw h Y=>PySem.W.kIn_of Y) ?F
 case F =>
  intro w mg fa h KX G hmg
  refine' L2.all_mk KX G hmg ?q0 ?q1 ?q2 ?q3 ?q4 ?q5 ?q6 ?q7 ?q8 ?q9 ?qa ?qb ?qc ?qd ?qe ?qf ?qg ?qh ?qi ?qj ?qk ?ql ?qm ?qn ?qo ?qp ?qq ?qr ?qs ?qt ?qu ?qv ?qw ?qx ?qy ?qz ?q10 ?q11 ?q12 ?q13 ?q14 ?q15 ?q16 ?q17 ?q18 ?q19 ?q1a ?q1b ?q1c ?q1d ?q1e ?q1f ?q1g ?q1h ?q1i ?q1j ?q1k ?q1l ?q1m ?q1n ?q1o ?q1p ?q1q ?q1r ?q1s ?q1t ?q1u ?q1v ?q1w ?q1x ?q1y ?q1z ?q20 ?q21 ?q22 ?q23 ?q24 ?q25 ?q26 ?q27 ?q28 ?q29 ?q2a ?q2b ?q2c ?q2d ?q2e ?q2f ?q2g ?q2h ?q2i ?q2j ?q2k ?q2l ?q2m ?q2n ?q2o ?q2p ?q2q ?q2r ?q2s ?q2t ?q2u ?q2v ?q2w ?q2x ?q2y ?q2z ?q30 ?q31 ?q32 ?q33 ?q34 ?q35 ?q36 ?q37 ?q38 ?q39 ?q3a ?q3b ?q3c ?q3d ?q3e ?q3f ?q3g ?q3h ?q3i ?q3j ?q3k ?q3l ?q3m ?q3n ?q3o ?q3p ?q3q ?q3r ?q3s ?q3t ?q3u ?q3v ?q3w ?q3x ?q3y ?q3z ?q40 ?q41 ?q42 ?q43 ?q44 ?q45 ?q46 ?q47 ?q48 ?q49 ?q4a ?q4b ?q4c ?q4d ?q4e ?q4f ?q4g ?q4h ?q4i ?q4j ?q4k ?q4l ?q4m ?q4n ?q4o ?q4p ?q4q ?q4r ?q4s ?q4t ?q4u ?q4v ?q4w ?q4x ?q4y ?q4z ?q50 ?q51 ?q52 ?q53 ?q54 ?q55 ?q56 ?q57 ?q58 ?q59 ?q5a ?q5b ?q5c ?q5d ?q5e ?q5f ?q5g ?q5h ?q5i ?q5j ?q5k ?q5l ?q5m ?q5n ?q5o ?q5p ?q5q ?q5r ?q5s ?q5t ?q5u ?q5v ?q5w ?q5x ?q5y ?q5z ?q60 ?q61 ?q62 ?q63 ?q64 ?q65 ?q66 ?q67 ?q68 ?q69 ?q6a ?q6b ?q6c ?q6d ?q6e ?q6f ?q6g ?q6h ?q6i ?q6j ?q6k ?q6l ?q6m ?q6n ?q6o ?q6p ?q6q ?q6r ?q6s ?q6t ?q6u ?q6v ?q6w ?q6x ?q6y ?q6z ?q70 ?q71 ?q72 ?q73 ?q74 ?q75 ?q76 ?q77 ?q78 ?q79 ?q7a ?q7b ?q7c ?q7d ?q7e ?q7f ?q7g
  (case q0=>k_is)
  (case q1=>k_is)
  (case q2=>k_is)
  (case q3=>k_is)
  (case q4=>k_is)
  (case q5=>k_is)
  (case q6=>k_is)
  (case q7=>k_is)
  (case q8=>k_is)
  (case q9=>k_is)
  (case qa=>k_is)
  (case qb=>k_is)
  (case qc=>k_is)
  (case qd=>k_is)
  (case qe=>k_is)
  (case qf=>k_is)
  (case qg=>k_is)
  (case qh=>k_is)
  (case qi=>k_is)
  (case qj=>k_is)
  (case qk=>k_is)
  (case ql=>k_is)
  (case qm=>k_is)
  (case qn=>k_is)
  (case qo=>k_is)
  (case qp=>k_is)
  (case qq=>k_is)
  (case qr=>k_is)
  (case qs=>k_is)
  (case qt=>k_is)
  (case qu=>k_is)
  (case qv=>k_is)
  (case qw=>k_is)
  (case qx=>k_is)
  (case qy=>k_is)
  (case qz=>k_is)
  (case q10=>k_is)
  (case q11=>k_is)
  (case q12=>k_is)
  (case q13=>k_is)
  (case q14=>k_is)
  (case q15=>k_is)
  (case q16=>k_is)
  (case q17=>k_is)
  (case q18=>k_is)
  (case q19=>k_is)
  (case q1a=>k_exc)
  (case q1b=>k_exc)
  (case q1c=>k_is)
  (case q1d=>k_is)
  (case q1e=>k_is)
  (case q1f=>k_is)
  (case q1g=>k_is)
  (case q1h=>k_is)
  (case q1i=>k_is)
  (case q1j=>k_is)
  (case q1k=>k_is)
  (case q1l=>k_is)
  (case q1m=>k_is)
  (case q1n=>k_is)
  (case q1o=>k_is)
  (case q1p=>k_is)
  (case q1q=>k_is)
  (case q1r=>k_is)
  (case q1s=>k_is)
  (case q1t=>k_is)
  (case q1u=>k_is)
  (case q1v=>k_is)
  (case q1w=>k_is)
  (case q1x=>k_is)
  (case q1y=>k_is)
  (case q1z=>k_is)
  (case q20=>k_is)
  (case q21=>k_is)
  (case q22=>k_is)
  (case q23=>k_is)
  (case q24=>k_is)
  (case q25=>k_is)
  (case q26=>k_is)
  (case q27=>k_is)
  (case q28=>k_is)
  (case q29=>k_is)
  (case q2a=>k_is)
  (case q2b=>k_is)
  (case q2c=>k_is)
  (case q2d=>k_is)
  (case q2e=>k_is)
  (case q2f=>k_is)
  (case q2g=>k_is)
  (case q2h=>k_is)
  (case q2i=>k_is)
  (case q2j=>k_is)
  (case q2k=>k_is)
  (case q2l=>k_is)
  (case q2m=>k_is)
  (case q2n=>k_is)
  (case q2o=>k_is)
  (case q2p=>k_is)
  (case q2q=>k_is)
  (case q2r=>k_is)
  (case q2s=>k_is)
  (case q2t=>k_is)
  (case q2u=>k_is)
  (case q2v=>k_is)
  (case q2w=>k_is)
  (case q2x=>k_is)
  (case q2y=>k_is)
  (case q2z=>k_is)
  (case q30=>k_is)
  (case q31=>k_is)
  (case q32=>k_is)
  (case q33=>k_is)
  (case q34=>k_is)
  (case q35=>k_is)
  (case q36=>k_is)
  (case q37=>k_is)
  (case q38=>k_is)
  (case q39=>k_is)
  (case q3a=>k_is)
  (case q3b=>k_is)
  (case q3c=>k_is)
  (case q3d=>k_is)
  (case q3e=>k_is)
  (case q3f=>k_is)
  (case q3g=>k_is)
  (case q3h=>k_is)
  (case q3i=>k_is)
  (case q3j=>k_is)
  (case q3k=>k_is)
  (case q3l=>k_is)
  (case q3m=>k_is)
  (case q3n=>k_is)
  (case q3o=>k_is)
  (case q3p=>k_is)
  (case q3q=>k_is)
  (case q3r=>k_is)
  (case q3s=>k_is)
  (case q3t=>k_is)
  (case q3u=>k_is)
  (case q3v=>k_is)
  (case q3w=>k_is)
  (case q3x=>k_is)
  (case q3y=>k_is)
  (case q3z=>k_is)
  (case q40=>k_is)
  (case q41=>k_is)
  (case q42=>k_is)
  (case q43=>k_is)
  (case q44=>k_is)
  (case q45=>k_is)
  (case q46=>k_is)
  (case q47=>k_is)
  (case q48=>k_is)
  (case q49=>k_is)
  (case q4a=>k_is)
  (case q4b=>k_is)
  (case q4c=>k_is)
  (case q4d=>k_is)
  (case q4e=>k_is)
  (case q4f=>k_is)
  (case q4g=>k_is)
  (case q4h=>k_is)
  (case q4i=>k_is)
  (case q4j=>k_is)
  (case q4k=>k_is)
  (case q4l=>k_is)
  (case q4m=>k_is)
  (case q4n=>k_is)
  (case q4o=>k_is)
  (case q4p=>k_is)
  (case q4q=>k_is)
  (case q4r=>k_is)
  (case q4s=>k_is)
  (case q4t=>k_is)
  (case q4u=>k_is)
  (case q4v=>k_is)
  (case q4w=>k_is)
  (case q4x=>k_is)
  (case q4y=>k_is)
  (case q4z=>k_is)
  (case q50=>k_is)
  (case q51=>k_is)
  (case q52=>k_is)
  (case q53=>k_is)
  (case q54=>k_is)
  (case q55=>k_is)
  (case q56=>k_is)
  (case q57=>k_is)
  (case q58=>k_is)
  (case q59=>k_is)
  (case q5a=>k_is)
  (case q5b=>k_is)
  (case q5c=>k_is)
  (case q5d=>k_is)
  (case q5e=>k_is)
  (case q5f=>k_is)
  (case q5g=>k_is)
  (case q5h=>k_is)
  (case q5i=>k_is)
  (case q5j=>k_is)
  (case q5k=>k_is)
  (case q5l=>k_is)
  (case q5m=>k_is)
  (case q5n=>k_is)
  (case q5o=>k_is)
  (case q5p=>k_is)
  (case q5q=>k_is)
  (case q5r=>k_is)
  (case q5s=>k_is)
  (case q5t=>k_is)
  (case q5u=>k_is)
  (case q5v=>k_is)
  (case q5w=>k_is)
  (case q5x=>k_is)
  (case q5y=>k_is)
  (case q5z=>k_is)
  (case q60=>k_is)
  (case q61=>k_is)
  (case q62=>k_is)
  (case q63=>k_is)
  (case q64=>k_is)
  (case q65=>k_is)
  (case q66=>k_is)
  (case q67=>k_is)
  (case q68=>k_is)
  (case q69=>k_is)
  (case q6a=>k_is)
  (case q6b=>k_is)
  (case q6c=>k_is)
  (case q6d=>k_is)
  (case q6e=>k_is)
  (case q6f=>k_is)
  (case q6g=>k_is)
  (case q6h=>k_is)
  (case q6i=>k_is)
  (case q6j=>k_is)
  (case q6k=>k_is)
  (case q6l=>k_is)
  (case q6m=>k_is)
  (case q6n=>k_is)
  (case q6o=>k_is)
  (case q6p=>k_is)
  (case q6q=>k_is)
  (case q6r=>k_is)
  (case q6s=>k_is)
  (case q6t=>k_is)
  (case q6u=>k_is)
  (case q6v=>k_is)
  (case q6w=>k_is)
  (case q6x=>k_is)
  (case q6y=>k_is)
  (case q6z=>k_is)
  (case q70=>k_is)
  (case q71=>k_is)
  (case q72=>k_is)
  (case q73=>k_is)
  (case q74=>k_is)
  (case q75=>k_is)
  (case q76=>k_is)
  (case q77=>k_is)
  (case q78=>k_is)
  (case q79=>k_is)
  (case q7a=>kit_is)
  (case q7b=>k_is)
  (case q7c=>k_is)
  (case q7d=>kit_is)
  (case q7e=>k_is)
  (case q7f=>k_is)
  (case q7g=>kit_is)
