import PyProof.Rows.All
import Wide.All
import OpenK.AllK
import Wide.FinOn
import Lean
import PyProof.EqAt
import PyProof.EqKinds
import PyProof.TupleCall
import PyProof.SetScanFacts
import PyProof.Rows.SetFrom
import PyProof.Rows.SortWalk
import PyProof.CollectWalk
import PyProof.DictWalks
import PySem.Challenge.RW_holdback_k25_brooms
set_option linter.all false
set_option maxRecDepth 100000
set_option maxHeartbeats 8000000
open PySem PySem.Spec PyProof.Rows
set_option Elab.async false
namespace L2
abbrev AS:=Sum Int Str
def HS:AS->Value->Bool
 | .inl k,v=>Value.isInt k v
 | .inr x,v=>Value.isStrOf x v
def dA(w:World):AS->Int
 | .inl k=>hashInt k
 | .inr x=>hashStr w x
theorem FG:∀ {k:AS} {v:Value},HS k v=true->(∃ i t,k=Sum.inl i/\v=Value.int i t)\/(∃ x t,k=Sum.inr x/\v=Value.str x t)
 | .inl i,v,h=>by
  obtain⟨t,e⟩:=Value.isInt_shape (k:=i) (v:=v) h
  exact .inl ⟨i,t,rfl,e⟩
 | .inr x,v,h=>by
  obtain⟨t,e⟩:=Value.isStrOf_shape (x:=x) (v:=v) h
  exact .inr ⟨x,t,rfl,e⟩
theorem dB(i:Int)(t:Tok):HS (.inl i) (.int i t)=true:=by simp[HS,Value.isInt]
theorem dC(x:Str)(t:Tok):HS (.inr x) (.str x t)=true:=by simp[HS,Value.isStrOf]
theorem dD(a b:Int):decide ((Sum.inl a:AS)=Sum.inl b)=(a == b):=by
 by_cases e:a=b
 ·subst e;simp
 ·have h:¬ (Sum.inl a:AS)=Sum.inl b:=λq=>e (Sum.inl.inj q)
  rw[decide_eq_false h]
  exact(beq_eq_false_iff_ne.mpr e).symm
theorem dE(a b:Str):decide ((Sum.inr a:AS)=Sum.inr b)=decide (a=b):=by
 by_cases e:a=b
 ·subst e;simp
 ·have h:¬ (Sum.inr a:AS)=Sum.inr b:=λq=>e (Sum.inr.inj q)
  rw[decide_eq_false h,decide_eq_false e]
theorem dG(a:Int)(b:Str):decide ((Sum.inl a:AS)=Sum.inr b)=false:=decide_eq_false (λq=>nomatch q)
theorem dH(a:Str)(b:Int):decide ((Sum.inr a:AS)=Sum.inl b)=false:=decide_eq_false (λq=>nomatch q)
def C4(prog:Program)(w:World):PySem.KeyKind prog w AS where
 is:=HS
 hash:=dA w
 inj:=λv a b ha hb=>by
  rcases FG ha with⟨i,t,rfl,rfl⟩ | ⟨x,t,rfl,rfl⟩
  ·rcases FG hb with⟨j,u,rfl,e⟩ | ⟨y,u,rfl,e⟩
   ·injection e with e1 _;rw[e1]
   ·exact nomatch e
  ·rcases FG hb with⟨j,u,rfl,e⟩ | ⟨y,u,rfl,e⟩
   ·exact nomatch e
   ·injection e with e1 _;rw[e1]
 byValue:=λk v h=>by
  rcases FG h with⟨i,t,rfl,rfl⟩ | ⟨x,t,rfl,rfl⟩<;>rfl
 pyHash:=λhv h=>by
  rcases FG hv with⟨i,t,rfl,rfl⟩ | ⟨x,t,rfl,rfl⟩
  ·exact wpAny_pyHash_int h
  ·exact wpAny_pyHash_str h
 eqBool:=λhu hv h=>by
  rcases FG hu with⟨i,t,rfl,rfl⟩ | ⟨x,t,rfl,rfl⟩
  ·rcases FG hv with⟨j,u,rfl,rfl⟩ | ⟨y,u,rfl,rfl⟩
   ·rw[dD]at h;exact wpAny_eqBool_int h
   ·rw[dG]at h;exact SeqAt.EqAt.int_str i t y u _ _ _ _ h
  ·rcases FG hv with⟨j,u,rfl,rfl⟩ | ⟨y,u,rfl,rfl⟩
   ·rw[dH]at h;exact SeqAt.EqAt.str_int x t j u _ _ _ _ h
   ·rw[dE]at h;exact wpAny_eqBool_str h
 «strs» :=λk x t v h=>by
  rcases FG h with⟨i,u,rfl,e⟩ | ⟨y,u,rfl,e⟩
  ·exact nomatch e
  ·injection e with e1 _
   subst e1
   cases v<;>rfl
theorem dJ(prog:Program)(w:World)(i:Int)(t:Tok):(C4 prog w).is (.inl i) (.int i t)=true:=dB i t
theorem dM(prog:Program)(w:World)(x:Str)(t:Tok):(C4 prog w).is (.inr x) (.str x t)=true:=dC x t
end L2
namespace L2
inductive V where
 | non | bl (b:Bool) | int (i:Int) | str (x:Str) | byt (b:Array UInt8) | flt (b:UInt64) | ref (a:Addr) | ty (n:String)
 deriving DecidableEq
def RelV:V->Value->Prop
 | .non,u=>u=Value.none
 | .bl b,u=>u=Value.bool b
 | .int i,u=>∃ t,u=Value.int i t
 | .str x,u=>∃ t,u=Value.str x t
 | .byt b,u=>∃ t,u=Value.bytes b t
 | .flt b,u=>∃ t,u=Value.float b t
 | .ref a,u=>u=Value.ref a
 | .ty n,u=>u=Value.type n
abbrev Vals:List V->List Value->Prop:=Paired RelV
theorem Vals.length{xs:List V}{us:List Value}(r:Vals xs us):xs.length=us.length:=Paired.length r
theorem Vals.get:∀ {xs:List V} {us:List Value} {i:Nat} {x:V},Vals xs us->xs[i]? =some x->∃ u,us[i]? =some u/\RelV x u
 | _,_,_,_,.nil,e=>by simp at e
 | _,_,0,_,.cons r _,e=>by simp at e;subst e;exact⟨_,rfl,r⟩
 | _,_,i+1,x,.cons _ t,e=>by
  obtain⟨u,h1,h2⟩:=Vals.get (i:=i) (x:=x) t (by simpa using e)
  exact⟨u,by simpa using h1,h2⟩
theorem Vals.set{x:V}{u:Value}(r:RelV x u):∀ {xs:List V} {us:List Value} (i:Nat),Vals xs us->Vals (xs.set i x) (us.set i u)
 | _,_,_,.nil=>.nil
 | _,_,0,.cons _ t=>.cons r t
 | _,_,i+1,.cons q t=>.cons q (Vals.set r i t)
theorem Vals.append:∀ {xs ys:List V} {us ws:List Value},Vals xs us->Vals ys ws->Vals (xs++ys) (us++ws)
 | _,_,_,_,.nil,s=>s
 | _,_,_,_,.cons r t,s=>.cons r (Vals.append t s)
theorem Vals.take:∀ {xs:List V} {us:List Value} (n:Nat),Vals xs us->Vals (xs.take n) (us.take n)
 | _,_,0,_=>.nil
 | _,_,_+1,.nil=>.nil
 | _,_,n+1,.cons r t=>.cons r (Vals.take n t)
theorem Vals.drop:∀ {xs:List V} {us:List Value} (n:Nat),Vals xs us->Vals (xs.drop n) (us.drop n)
 | _,_,0,r=>r
 | _,_,_+1,.nil=>.nil
 | _,_,n+1,.cons _ t=>Vals.drop n t
theorem Vals.none_of:∀ {xs:List V} {us:List Value} {i:Nat},Vals xs us->xs[i]? =none->us[i]? =none:=λ{xs us i} r e=>by
 have h1:=r.length
 have h2:xs.length<=i:=List.getElem?_eq_none_iff.mp e
 exact List.getElem?_eq_none_iff.mpr (by omega)
def RelO:Option V->Option Value->Prop
 | some v,some u=>RelV v u
 | none,none=>True
 | _,_=>False
def KV{κ :Type}:List (κ × V)->List (κ × Value)->Prop:=Paired λ(p: κ × V) (q: κ × Value)=>p.1=q.1/\RelV p.2 q.2
def kV:AS->V
 | .inl i=>.int i
 | .inr x=>.str x
inductive HO where
 /-- a list -/
 | lst (xs:List V)
 /-- a tuple (never changes) -/
 | tup (xs:List V)
 /-- a dict whose keys are ints and texts;one whose keys are tuples of ints and texts (the empty one is both) -/
 | dK (kvs:List (AS × V)) | dT (kvs:List (List AS × V))
 /-- a set of ints: its members,its size -/
 | set (S:Int->Bool) (n:Nat)
 /-- an instance of the class at C,its dict at dx,its attributes -/
 | ins (C dx:Addr) (fs:List (Str × V))
 /-- the dict of the instance at x -/
 | own (x:Addr)
 /-- the dict of an exception -/
 | xd (fs:List (Str × V))
 /-- a bound method,f of x -/
 | met (f x:Addr)
 /-- a range object lo,lo+1,.. below hi -/
 | rng (lo hi:Int)
 /-- a thing that is known to the object (the script;a dict while a loop walks it): read,never written while it is so -/
 | frz (o:Obj) (u:HO)
 /-- a code object's table -/
 | tbl (ps:Array Value)
 /-- any other thing,by what is true of its one object (a def of one's own: SetO a S n:=HO.ext λh=>..) -/
 | ext (φ :Heap->Prop)
abbrev Hp:=Addr->Option HO
def upd(H:Hp)(a:Addr)(o:HO):Hp:=λb=>if b=a then some o else H b
theorem AK{H:Hp}{a:Addr}{o:HO}:upd H a o a=some o:=by unfold upd;rw[if_pos rfl]
theorem AH{H:Hp}{a b:Addr}{o:HO}(h:b≠a):upd H a o b=H b:=by unfold upd;rw[if_neg h]
theorem F6{H:Hp}{a:Addr}{o u:HO}:upd (upd H a o) a u=upd H a u:=by
 funext b;unfold upd;split<;>rfl
theorem A6{H:Hp}{a b:Addr}{o u:HO}(h:H a=some o)(h':H b=some u)(d:o≠u):a≠b:=by
 intro e;subst e;rw[h]at h';exact d (Option.some.inj h')
theorem AY{H:Hp}{a b:Addr}{o:HO}(h:H a=some o)(h':H b=none):a≠b:=by
 intro e;subst e;rw[h]at h';cases h'
section
variable(P:Program)(w:World)
def ObjOk(H:Hp)(h:Heap)(a:Addr):HO->Prop
 | .lst xs=>xs.length<=sizeLine/\∃ (its:List Value) (n:Nat),Vals xs its/\h.get? a=some { cls:=.type "list",data:=.seq its.toArray n }
 | .tup xs=>xs.length<=sizeLine/\∃ its:List Value,Vals xs its/\IsTup h a its.toArray
 | .dK kvs=>kvs.length<=sizeLine/\(a == sysModules)=false/\∃ vs,KV kvs vs/\h.DictOf (C4 P w) a vs
 | .dT kvs=>kvs.length<=sizeLine/\(a == sysModules)=false/\∃ xs:List (List AS × Addr × Value),
   Paired (λ(p:List AS × V) (q:List AS × Addr × Value)=>p.1=q.1/\H q.2.1=some (.tup (p.1.map kV))/\RelV p.2 q.2.2) kvs xs ∧
   ∃ o es ep,h.get? a=some o/\o.ExactDict/\o.data=.dict es ep/\es.toList=xs.map (entryOfKey (tupleKind (C4 P w)))/\(xs.map (·.1)).Nodup
 | .set S n=>h.SetOf (intKind P w) a S n
 | .ins C dx fs=>H dx=some (.own a)/\fs.length<=1000/\dx≠a/\h.get? a=some (W.instObj C dx) ∧
   ∃ mA,h.Ns1 dx mA/\(∀ f,RelO (fs.lookup f) (mA f))/\PySem.Within mA (fs.map (·.1))
 | .own _=>∃ o,h.get? a=some o
 | .xd fs=>∃ mA,h.Ns1 a mA/\∀ f,RelO (fs.lookup f) (mA f)
 | .rng lo hi=>∃ t u v,h.get? a=some { cls:=.type "range",data:=.fields #[.int lo t,.int hi u,.int 1 v] }
 | .frz o u=>h.get? a=some o/\ObjOk H h a u
 | .tbl ps=>h.get? a=some { cls:=.none,data:=.fields ps }
 | .met f x=>h.get? a=some (W.methodObj (.ref f) (.ref x))
 | .ext φ => φ h/\(∃ o,h.get? a=some o)/\∀ h1 h2:Heap,φ h1->(∀ o,h1.get? a=some o->h2.get? a=some o)-> φ h2
def HOk(H:Hp)(h:Heap):Prop:=∀ a o,H a=some o->ObjOk P w H h a o
end
section
variable{P:Program}{w:World}{H H':Hp}{h h':Heap}{a:Addr}{o:HO}
theorem ObjOk.lt(x:ObjOk P w H h a o):a<h.objs.size:=by
 cases o with
 | lst xs=>obtain⟨_,_,_,_,e⟩:=x;exact Heap.lt_size e
 | tup xs=>obtain⟨_,_,_,p⟩:=x;exact p.lt
 | dK kvs=>obtain⟨_,_,_,_,o,_,_,e,_⟩:=x;exact Heap.lt_size e
 | dT kvs=>obtain⟨_,_,_,_,o,_,_,e,_⟩:=x;exact Heap.lt_size e
 | set S n=>obtain⟨o,_,_,_,e,_⟩:=x;exact Heap.lt_size e
 | ins C dx fs=>obtain⟨_,_,_,e,_⟩:=x;exact Heap.lt_size e
 | own y=>obtain⟨_,e⟩:=x;exact Heap.lt_size e
 | xd fs=>obtain⟨_,⟨_,_,_,e,_⟩,_⟩:=x;exact Heap.lt_size e
 | rng lo hi=>obtain⟨_,_,_,e⟩:=x;exact Heap.lt_size e
 | frz ob u=>obtain⟨e,_⟩:=x;exact Heap.lt_size e
 | tbl ps=>exact Heap.lt_size (show h.get? a=some _ from x)
 | met f y=>exact Heap.lt_size (show h.get? a=some _ from x)
 | ext φ =>obtain⟨_,⟨_,e⟩,_⟩:=x;exact Heap.lt_size e
theorem Paired.mapP{α β :Type}{F G: α -> β ->Prop}:∀ {l₁:List α} {l₂:List β},Paired F l₁ l₂->(∀ a b,F a b->G a b)->Paired G l₁ l₂
 | _,_,.nil,_=>.nil
 | _,_,.cons r t,f=>.cons (f _ _ r) (Paired.mapP t f)
theorem ObjOk.stay(x:ObjOk P w H h a o)(k:∀ b u,(b=a\/H b=some (.own a))->h.get? b=some u->h'.get? b=some u)
  (ho:∀ b,H b=some (.own a)->H' b=some (.own a)) (ht:∀ b xs,H b=some (.tup xs)->H' b=some (.tup xs)):ObjOk P w H' h' a o:=by
 induction o with
 | lst xs=>obtain⟨z,its,n,r,e⟩:=x;exact⟨z,its,n,r,k _ _ (.inl rfl) e⟩
 | tup xs=>obtain⟨z,its,r,ob,e,c⟩:=x;exact⟨z,its,r,ob,k _ _ (.inl rfl) e,c⟩
 | dK kvs=>obtain⟨z,y,vs,r,ob,es,ep,e,c⟩:=x;exact⟨z,y,vs,r,ob,es,ep,k _ _ (.inl rfl) e,c⟩
 | dT kvs =>
  obtain⟨z,y,xs,r,ob,es,ep,e,c⟩:=x
  exact⟨z,y,xs,Paired.mapP r λp q z=>⟨z.1,ht _ _ z.2.1,z.2.2⟩,ob,es,ep,k _ _ (.inl rfl) e,c⟩
 | set S n=>obtain⟨ob,es,ep,t,e,c⟩:=x;exact⟨ob,es,ep,t,k _ _ (.inl rfl) e,c⟩
 | ins C dx fs =>
  obtain⟨d,z,ne,e,mA,⟨od,es,ep,e2,c⟩,r⟩:=x
  exact⟨ho _ d,z,ne,k _ _ (.inl rfl) e,mA,⟨od,es,ep,k _ _ (.inr d) e2,c⟩,r⟩
 | own y=>obtain⟨ob,e⟩:=x;exact⟨ob,k _ _ (.inl rfl) e⟩
 | xd fs=>obtain⟨mA,⟨od,es,ep,e,c⟩,r⟩:=x;exact⟨mA,⟨od,es,ep,k _ _ (.inl rfl) e,c⟩,r⟩
 | rng lo hi=>obtain⟨t,u,v,e⟩:=x;exact⟨t,u,v,k _ _ (.inl rfl) e⟩
 | frz ob u ih=>obtain⟨e,q⟩:=x;exact⟨k _ _ (.inl rfl) e,ih q⟩
 | tbl ps =>
  have e:h.get? a=some { cls:=.none,data:=.fields ps }:=x
  show h'.get? a=some { cls:=.none,data:=.fields ps }
  exact k a _ (.inl rfl) e
 | met f y =>
  have e:h.get? a=some (W.methodObj (.ref f) (.ref y)):=x
  show h'.get? a=some (W.methodObj (.ref f) (.ref y))
  exact k a _ (.inl rfl) e
 | ext φ =>obtain⟨p,⟨o,e⟩,st⟩:=x;exact⟨st _ _ p λo q=>k _ _ (.inl rfl) q,⟨o,k _ _ (.inl rfl) e⟩,st⟩
theorem HOk.lt(x:HOk P w H h)(e:H a=some o):a<h.objs.size:=(x a o e).lt
theorem HOk.fresh(x:HOk P w H h)(e:h.objs.size<=a):H a=none:=by
 cases q:H a with
 | none=>rfl
 | some u=>exact absurd (Nat.lt_of_lt_of_le (x.lt q) e) (Nat.lt_irrefl _)
theorem HOk.kept(x:HOk P w H h)(k:∀ b u,h.get? b=some u->h'.get? b=some u):HOk P w H h':=λa o e =>
 (x a o e).stay (λb u _ q=>k b u q) (λ_ q=>q) λ_ _ q=>q
theorem HOk.laid(x:HOk P w H h)(k:∀ b u,h.get? b=some u->h'.get? b=some u)(hp:h.objs.size<=a)(new:ObjOk P w (upd H a o) h' a o):HOk P w (upd H a o) h':=λb u e=>by
 have hn:=x.fresh hp
 by_cases hb:b=a
 ·subst hb;rw[AK]at e;cases e;exact new
 ·rw[AH hb]at e
  exact(x b u e).stay (λc v _ q=>k c v q) (λc q=>by rw[AH (AY q hn)];exact q) λc xs q=>by rw[AH (AY q hn)];exact q
end
def Rd(H:Hp)(a:Addr)(u:HO):Prop:=H a=some u\/∃ o,H a=some (.frz o u)
theorem Rd.of{H:Hp}{a:Addr}{u:HO}(h:H a=some u):Rd H a u:=.inl h
theorem Rd.ok{P:Program}{w:World}{H:Hp}{h:Heap}{a:Addr}{u:HO}(r:Rd H a u)(x:HOk P w H h):ObjOk P w H h a u:=by
 rcases r with r | ⟨o,r⟩
 ·exact x a u r
 ·obtain⟨_,q⟩:=x a _ r
  exact q
def KD:Option HO->Prop
 | some (.lst _)=>True
 | some (.dK _)=>True
 | some (.dT _)=>True
 | some (.set _ _)=>True
 | some (.ins _ _ _)=>True
 | some (.ext _)=>True
 | _=>False
section
variable{P:Program}{w:World}{H:Hp}{h h':Heap}{x e:Addr}{o':HO}
theorem HOk.write(ok:HOk P w H h)(mu:KD (H x))(he:e=x\/H e=some (.own x))(k:∀ b u,b≠e->h.get? b=some u->h'.get? b=some u)(heo:∃ u,h'.get? e=some u)
  (new:ObjOk P w (upd H x o') h' x o'):HOk P w (upd H x o') h':=λb u q=>by
 have nown:∀ c y,H c=some (.own y)->c≠x:=λc y r z=>by subst z;rw[r]at mu;exact mu
 have ntup:∀ c xs,H c=some (.tup xs)->c≠x:=λc xs r z=>by subst z;rw[r]at mu;exact mu
 by_cases hb:b=x
 ·subst hb;rw[AK]at q;cases q;exact new
 ·rw[AH hb]at q
  by_cases hbe:b=e
  ·have q':H b=some (.own x):=by
    rcases he with z | z
    ·exact absurd (hbe.trans z) hb
    ·rw[hbe];exact z
   rw[q]at q';cases q'
   obtain⟨v,hv⟩:=heo
   exact⟨v,by rw[hbe];exact hv⟩
  ·refine(ok b u q).stay (λc v hc r=>k c v ?_ r) (λc r=>by rw[AH (nown c b r)];exact r) λc xs r=>by rw[AH (ntup c xs r)];exact r
   rcases hc with rfl | hc
   ·exact hbe
   ·rintro rfl
    rcases he with z | z
    ·exact nown c b hc z
    ·rw[hc]at z;cases z;exact hb rfl
end
structure Un(fs ex:List Addr)(H H':Hp)(h h':Heap):Prop where
 keep:∀ b o,h.get? b=some o->H b=none->b∉fs->b∉ex->h'.get? b=some o
 slot:∀ b o,h.get? b=some o->H b=none->b∈fs->b∉ex->∃ sl,h'.get? b=some { o with slots:=sl }
 free:∀ b o,h.get? b=some o->H b=none->b∉ex->H' b=none
 there:∀ b o,h.get? b=some o->b∉ex->∃ o',h'.get? b=some o'
 tups:∀ b xs,H b=some (.tup xs)->H' b=some (.tup xs)
 frzs:∀ b o u,H b=some (.frz o u)->H' b=some (.frz o u)
 tbls:∀ b ps,H b=some (.tbl ps)->∃ more,H' b=some (.tbl (ps++more))
section
variable{fs fs' ex ex':List Addr}{H H1 H2:Hp}{h h1 h2 h':Heap}{a x e:Addr}{o:HO}
theorem Un.any(u:Un fs ex H H1 h h1){b:Addr}{ob:Obj}(q:h.get? b=some ob)(n:H b=none)(hx:b∉ex):∃ sl,h1.get? b=some { ob with slots:=sl }:=by
 by_cases hb:b∈fs
 ·exact u.slot b ob q n hb hx
 ·exact⟨ob.slots,u.keep b ob q n hb hx⟩
theorem Un.trans(a:Un fs ex H H1 h h1)(b:Un fs ex H1 H2 h1 h2):Un fs ex H H2 h h2 where
 keep:=λc ob q n hc hx=>b.keep c ob (a.keep c ob q n hc hx) (a.free c ob q n hx) hc hx
 slot:=λc ob q n hc hx=>by
  obtain⟨sl,e1⟩:=a.slot c ob q n hc hx
  obtain⟨sl',e2⟩:=b.slot c _ e1 (a.free c ob q n hx) hc hx
  exact⟨sl',e2⟩
 free:=λc ob q n hx=>by
  obtain⟨o',e1⟩:=a.there c ob q hx
  exact b.free c o' e1 (a.free c ob q n hx) hx
 there:=λc ob q hx=>by
  obtain⟨o',e1⟩:=a.there c ob q hx
  exact b.there c o' e1 hx
 tups:=λc xs q=>b.tups c xs (a.tups c xs q)
 frzs:=λc ob xs q=>b.frzs c ob xs (a.frzs c ob xs q)
 tbls:=λc ps q=>by
  obtain⟨m1,e1⟩:=a.tbls c ps q
  obtain⟨m2,e2⟩:=b.tbls c _ e1
  exact⟨m1++m2,by rw[e2,Array.append_assoc]⟩
theorem Un.kept(k:∀ b u,h.get? b=some u->h'.get? b=some u):Un fs ex H H h h' :=
 ⟨λb ob q _ _ _=>k b ob q,λb ob q _ _ _=>⟨ob.slots,k b ob q⟩,λ_ _ _ n _=>n,λb ob q _=>⟨ob,k b ob q⟩,λ_ _ q=>q,λ_ _ _ q=>q,λ_ ps q=>⟨#[],by rw[q];simp⟩⟩
theorem Un.refl:Un fs ex H H h h:=Un.kept λ_ _ q=>q
theorem Un.laid(k:∀ b u,h.get? b=some u->h'.get? b=some u)(hp:h.objs.size<=a)(hn:H a=none):Un fs ex H (upd H a o) h h' where
 keep:=λb u q _ _ _=>k b u q
 slot:=λb u q _ _ _=>⟨u.slots,k b u q⟩
 free:=λb u q n _=>by rw[AH (Nat.ne_of_lt (Nat.lt_of_lt_of_le (Heap.lt_size q) hp))];exact n
 there:=λb u q _=>⟨u,k b u q⟩
 tups:=λb xs q=>by rw[AH (AY q hn)];exact q
 frzs:=λb u xs q=>by rw[AH (AY q hn)];exact q
 tbls:=λb ps q=>⟨#[],by rw[AH (AY q hn),q];simp⟩
theorem Un.write(mu:KD (H x))(he:e=x\/H e=some (.own x))(k:∀ b u,b≠e->h.get? b=some u->h'.get? b=some u)(heo:∃ u,h'.get? e=some u):Un fs ex H (upd H x o) h h':=by
 have hx:∀ b,H b=none->b≠x:=λb n z=>by subst z;rw[n]at mu;exact mu
 have hb:∀ b,H b=none->b≠e:=λb n z=>by
  subst z
  rcases he with r | r
  ·exact hx b n r
  ·rw[n]at r;cases r
 have hm:∀ b u,H b=some u->¬ KD (some u)->b≠x:=λb u q nm z=>by subst z;rw[q]at mu;exact nm mu
 refine⟨λb u q n _ _=>k b u (hb b n) q,λb u q n _ _=>⟨u.slots,k b u (hb b n) q⟩,λb u q n _=>by rw[AH (hx b n)];exact n,λb u q _=> ?_,
  λb xs q=>by rw[AH (hm b _ q λz=>z)];exact q,λb u xs q=>by rw[AH (hm b _ q λz=>z)];exact q,λb ps q=>⟨#[],by rw[AH (hm b _ q λz=>z),q];simp⟩⟩
 by_cases hbe:b=e
 ·subst hbe;exact heo
 ·exact⟨u,k b u hbe q⟩
theorem Un.mono(u:Un fs ex H H1 h h1)(hs:∀ b∈fs,b∈fs')(hx:∀ b∈ex,b∈ex'):Un fs' ex' H H1 h h1 :=
 ⟨λb ob q n hb he=>u.keep b ob q n (λz=>hb (hs b z)) λz=>he (hx b z),λ_ _ q n _ he=>u.any q n λz=>he (hx _ z),λb ob q n he=>u.free b ob q n λz=>he (hx b z),λb ob q he=>u.there b ob q λz=>he (hx b z),u.tups,u.frzs,u.tbls⟩
end
def LL(h:Heap)(H:Hp):List Addr:=(List.range h.objs.size).filter λa=>(H a).isSome
def FH(h:Heap)(H:Hp):Heap:=W.hideAll h (LL h H)
theorem dN(h:Heap)(H:Hp):(FH h H).objs.size=h.objs.size:=W.hideAll_size _ _
theorem dO{h:Heap}{H:Hp}{b:Addr}{o:Obj}(e:h.get? b=some o)(n:H b=none):(FH h H).get? b=some o :=
 W.hideAll_get _ e λhm=>by
  have q:(H b).isSome=true:=(List.mem_filter.mp hm).2
  rw[n]at q;simp at q
theorem dP{h:Heap}{H:Hp}{b:Addr}{o:Obj}(e:(FH h H).get? b=some o):h.get? b=some o/\H b=none:=by
 have e':h.get? b=some o:=W.of_hideAll (LL h H) e
 refine⟨e',?_⟩
 cases q:H b with
 | none=>rfl
 | some x =>
  have hm:b∈LL h H:=List.mem_filter.mpr ⟨List.mem_range.mpr (Heap.lt_size e'),by simp[q]⟩
  have z:(FH h H).get? b=none:=W.hideAll_none (LL h H) hm
  rw[z]at e;cases e
def dQ(g h:Heap)(L:Addr):List (Addr × Obj):=(List.range h.objs.size).filterMap λa=>if a=L\/(g.get? a).isSome=true then none else(h.get? a).map λo=>(a,o)
def CW(g h:Heap)(L d:Addr):List (Addr × Obj):=(dQ g h L).filter λp=>decide (p.1≠d)
end L2
namespace L2
structure Mod(K:W.Frag)(mg:Str->Option Value)(base:Heap):Prop where
 kin:K.In base
 glob:base.Ns mainGlobals mg
 blt:∃ mb,base.Ns builtinsNs mb/\∀ x:Str,x≠"__name__"->mb x=bootBuiltins x
 nolimit:base.NoLimit
structure Cx where
 prog:Program
 w:World
 K:W.Frag
 mg:Str->Option Value
 base:Heap
 A:Around
 N:List Str
 s₀:Shared
 H₀:Hp
 env:Env
 outer:List Env
 stack:List Env
 ex:List Addr
 fn:Str->Bool
 calm:Bool
 pn:List (Addr × Obj)
 xe:Value->Shared->Prop
def CP(l:List Env):List Addr:=l.filterMap (·.frame)
abbrev Cx.fs(X:Cx):List Addr:=CP X.outer
def NV(sc:Scope)(x:Str):Prop:=sc.names.lookup x=some .local\/sc.names.lookup x=some .cell\/sc.names.lookup x=some .free
def HU(sc:Scope)(x:Str):Prop:=sc.names.lookup x=some .local\/sc.names.lookup x=some .cell
def dR(env:Env)(h:Heap)(m:Str->Option Value)(x:Str)(u:Value):Prop :=
 (env.kindOf x=some .local/\m x=some u)\/((env.kindOf x=some .cell\/env.kindOf x=some .free)/\∃ c,env.cells.lookup x=some c/\h.IsCell c (some u))
structure Cx.Ok(X:Cx):Prop where
 mod:Mod X.K X.mg X.base
 kind:X.env.scope.kind=.function
 glob:X.env.globals=mainGlobals
 blt:X.env.builtins=builtinsNs
 above:X.s₀.heap.objs.size<=X.env.locals
 inj:∀ x y c,X.env.cells.lookup x=some c->X.env.cells.lookup y=some c->x=y
 has:∀ x,(X.env.kindOf x=some .cell\/X.env.kindOf x=some .free)->∃ c,X.env.cells.lookup x=some c
 cab:∀ x c,X.fn x=true->X.env.cells.lookup x=some c->X.s₀.heap.objs.size<=c
 hd:X.calm=true->X.A.handled=none
 frames:X.A.frames=some X.stack
 stk:X.stack=X.outer\/(X.stack=X.env::X.outer/\X.env.frame=some X.env.locals)
 exf:∀ b∈X.ex,b≠X.env.locals/\∀ x c,X.env.cells.lookup x=some c->c≠b
 bs:∀ b o,X.base.get? b=some o->X.s₀.heap.get? b=some o/\X.H₀ b=none
 bsz:X.base.objs.size<=X.s₀.heap.objs.size
 noex:∀ b o,X.base.get? b=some o->b∉X.ex
 exfs:∀ b∈X.ex,b∉X.fs
 funs:X.s₀.heap.FunFrames X.base X.outer
 frf:∀ b∈X.fs,X.H₀ b=none
structure Inv(X:Cx)(pins:List (Addr × Obj))(σ:List (Option V))(H:Hp)(s:Shared):Prop where
 ok:X.Ok
 os:s.os=X.s₀.os
 bare:AllBare s.gens
 base:Un X.fs X.ex X.H₀ H X.s₀.heap s.heap
 loc:∃ m,s.heap.Ns X.env.locals m/\∀ (i:Nat) (x:Str) (v:V),X.N[i]? =some x->σ[i]? =some (some v)->NV X.env.scope x->∃ u,RelV v u/\dR X.env s.heap m x u
 cell:∀ x c,X.env.cells.lookup x=some c->∃ v,s.heap.IsCell c v
 free:H X.env.locals=none
 freeC:∀ x c,X.env.cells.lookup x=some c->H c=none
 pin:∀ p∈X.pn++pins,s.heap.get? p.1=some p.2/\H p.1=none/\p.1≠X.env.locals/\p.1∉X.fs/\∀ v,p.2.data≠.cell v
 hok:HOk X.prog X.w H s.heap
 len:σ.length=X.N.length
section
variable{X:Cx}{pins:List (Addr × Obj)}{σ:List (Option V)}{H H':Hp}{s:Shared}{h':Heap}
theorem Cx.Ok.nofr(ok:X.Ok){b:Addr}{o:Obj}(e:X.base.get? b=some o):b∉X.fs:=λhb=>by
 have:=(ok.funs.mem hb).1
 rw[e]at this;cases this
theorem Inv.bs(I:Inv X pins σ H s):∀ b o,X.base.get? b=some o->s.heap.get? b=some o/\H b=none:=λb o e =>
 ⟨I.base.keep b o (I.ok.bs b o e).1 (I.ok.bs b o e).2 (I.ok.nofr e) (I.ok.noex b o e),I.base.free b o (I.ok.bs b o e).1 (I.ok.bs b o e).2 (I.ok.noex b o e)⟩
theorem Inv.bk(I:Inv X pins σ H s):∀ b o,X.base.get? b=some o->s.heap.get? b=some o:=λb o e=>(I.bs b o e).1
theorem Inv.mod(I:Inv X pins σ H s):Mod X.K X.mg X.base:=I.ok.mod
theorem Inv.kIn(I:Inv X pins σ H s):X.K.In s.heap:=I.ok.mod.kin.keeps I.bk
theorem Inv.nolimit(I:Inv X pins σ H s):s.heap.NoLimit:=I.ok.mod.nolimit.keeps I.bk
theorem Inv.fr(I:Inv X pins σ H s):∃ m,Fr X.base X.env.locals s.heap m :=
 let ⟨m,hn,_⟩:=I.loc
 ⟨m,hn,I.bk,Nat.le_trans I.ok.bsz I.ok.above⟩
theorem Inv.lt(I:Inv X pins σ H s):X.env.locals<s.heap.objs.size:=let ⟨_,hn,_⟩:=I.loc;hn.lt
theorem Inv.sz(I:Inv X pins σ H s):X.s₀.heap.objs.size<=s.heap.objs.size:=Nat.le_trans I.ok.above (Nat.le_of_lt I.lt)
theorem Inv.nofs(I:Inv X pins σ H s){a:Addr}(h:s.heap.objs.size<=a):a∉X.fs:=λhb=>by
 obtain⟨_,o,ho,_⟩:=I.ok.funs.mem hb
 exact absurd (Nat.lt_of_lt_of_le (Heap.lt_size ho) (Nat.le_trans I.sz h)) (Nat.lt_irrefl _)
theorem Inv.cne(I:Inv X pins σ H s):∀ x c,X.env.cells.lookup x=some c->c≠X.env.locals:=λx c e z=>by
 obtain⟨v,o,ho,hd⟩:=I.cell x c e
 obtain⟨m,⟨o',es,ep,ho',hd',_⟩,_⟩:=I.loc
 rw[z,ho']at ho;cases ho;rw[hd']at hd;cases hd
theorem Inv.funs(I:Inv X pins σ H s):s.heap.FunFrames X.base X.outer:=by
 have all:∀ (l:List Env),(∀ b∈CP l,b∈X.fs)->X.s₀.heap.FunFrames X.base l->s.heap.FunFrames X.base l:=by
  intro l
  induction l with
  | nil=>intro _ _;trivial
  | cons env r ih =>
   intro hs hl
   obtain⟨hk,⟨L,o,hf,hn,ho,hd⟩,hr⟩:=hl
   have hL:L∈X.fs:=hs L (by unfold CP;rw[List.filterMap_cons,hf];exact List.mem_cons_self)
   obtain⟨sl,e⟩:=I.base.slot L o ho (I.ok.frf L hL) hL λz=>I.ok.exfs L z hL
   exact⟨hk,⟨L,_,hf,hn,e,hd⟩,ih (λb hb=>hs b (by unfold CP;rw[List.filterMap_cons,hf];exact List.mem_cons_of_mem _ hb)) hr⟩
 exact all X.outer (λ_ hb=>hb) I.ok.funs
theorem Inv.stack(I:Inv X pins σ H s):s.heap.FunFrames X.base X.stack:=by
 rcases I.ok.stk with e | ⟨e,hf⟩
 ·rw[e];exact I.funs
 ·rw[e]
  obtain⟨m,hn,_⟩:=I.loc
  refine .cons (by rw[I.ok.kind];decide) hf hn ?_ I.funs
  exact Heap.get?_none_of_le (Nat.le_trans I.ok.bsz I.ok.above)
theorem Inv.stkSub(I:Inv X pins σ H s):∀ b∈CP X.stack,b∈X.env.locals::X.fs:=λb hb=>by
 rcases I.ok.stk with e | ⟨e,hf⟩
 ·rw[e]at hb;exact List.mem_cons_of_mem _ hb
 ·rw[e]at hb
  unfold CP at hb
  rw[List.filterMap_cons,hf]at hb
  exact hb
theorem Inv.stkFree(I:Inv X pins σ H s):∀ b∈CP X.stack,H b=none:=λb hb=>by
 rcases List.mem_cons.mp (I.stkSub b hb)with e | hb
 ·rw[e];exact I.free
 ·obtain⟨_,o,ho,_⟩:=I.ok.funs.mem hb
  exact I.base.free b o ho (I.ok.frf b hb) λz=>I.ok.exfs b z hb
theorem Inv.step{g':Array GenState}{t':Nat}{d':Drawn}{ch:List Addr}(I:Inv X pins σ H s)
  (hch:∀ b∈ch,(b∈X.ex\/X.s₀.heap.objs.size<=b)/\b≠X.env.locals/\(∀ x c,X.env.cells.lookup x=some c->c≠b)/\∀ p∈X.pn++pins,p.1≠b)
  (keep:∀ b o,b≠X.env.locals->b∉X.fs->b∉ch->s.heap.get? b=some o->H b=none->h'.get? b=some o)
  (slot:∀ b o,b≠X.env.locals->b∈X.fs->b∉ch->s.heap.get? b=some o->H b=none->∃ sl,h'.get? b=some { o with slots:=sl }) (free:∀ b o,b∉ch->s.heap.get? b=some o->H b=none->H' b=none)
  (there:∀ b o,b∉ch->s.heap.get? b=some o->∃ o',h'.get? b=some o')
  (tups:∀ b xs,H b=some (.tup xs)->H' b=some (.tup xs)) (frzs:∀ b o u,H b=some (.frz o u)->H' b=some (.frz o u)) (tbls:∀ b ps,H b=some (.tbl ps)->∃ more,H' b=some (.tbl (ps++more)))
  (ns:∀ m,s.heap.Ns X.env.locals m->h'.Ns X.env.locals m) (hok:HOk X.prog X.w H' h') (hg:AllBare g') :
  Inv X pins σ H' { s with heap:=h',gens:=g',drawn:=d',toks:=t' }:=by
 have neL:∀ b o,X.s₀.heap.get? b=some o->b≠X.env.locals:=λb o e=>Nat.ne_of_lt (Nat.lt_of_lt_of_le (Heap.lt_size e) I.ok.above)
 have neC:∀ b o,X.s₀.heap.get? b=some o->b∉X.ex->b∉ch:=λb o e hx hb=>by
  rcases(hch b hb).1 with z | z
  ·exact hx z
  ·exact absurd (Nat.lt_of_lt_of_le (Heap.lt_size e) z) (Nat.lt_irrefl _)
 have cellK:∀ x c,X.env.cells.lookup x=some c->∀ v,s.heap.IsCell c v->h'.IsCell c v:=λx c e v ⟨o,ho,hd⟩=>by
  have nch:c∉ch:=λz=>(hch c z).2.2.1 x c e rfl
  by_cases hc:c∈X.fs
  ·obtain⟨sl,q⟩:=slot c o (I.cne x c e) hc nch ho (I.freeC x c e)
   exact⟨_,q,hd⟩
  ·exact⟨o,keep c o (I.cne x c e) hc nch ho (I.freeC x c e),hd⟩
 refine⟨I.ok,I.os,hg,⟨λb o e n hb hx=> ?_,λb o e n hb hx=> ?_,λb o e n hx=> ?_,λb o e hx=> ?_,λb xs e=>tups b xs (I.base.tups b xs e),λb o xs e=>frzs b o xs (I.base.frzs b o xs e),λb ps e=> ?_⟩,?_,λx c e=> ?_,?_,λx c e=> ?_,λp hp=> ?_,hok,I.len⟩
 ·exact keep b o (neL b o e) hb (neC b o e hx) (I.base.keep b o e n hb hx) (I.base.free b o e n hx)
 ·obtain⟨sl,e1⟩:=I.base.slot b o e n hb hx
  obtain⟨sl',e2⟩:=slot b _ (neL b o e) hb (neC b o e hx) e1 (I.base.free b o e n hx)
  exact⟨sl',e2⟩
 ·obtain⟨o',e1⟩:=I.base.there b o e hx
  exact free b o' (neC b o e hx) e1 (I.base.free b o e n hx)
 ·obtain⟨o',e1⟩:=I.base.there b o e hx
  exact there b o' (neC b o e hx) e1
 ·obtain⟨m1,e1⟩:=I.base.tbls b ps e
  obtain⟨m2,e2⟩:=tbls b _ e1
  exact⟨m1++m2,by rw[e2,Array.append_assoc]⟩
 ·obtain⟨m,hn,hl⟩:=I.loc
  refine⟨m,ns m hn,λi x v e1 e2 e3=> ?_⟩
  obtain⟨u,r,l⟩:=hl i x v e1 e2 e3
  refine⟨u,r,?_⟩
  rcases l with l | ⟨k,c,e,z⟩
  ·exact .inl l
  ·exact .inr ⟨k,c,e,cellK x c e _ z⟩
 ·obtain⟨v,z⟩:=I.cell x c e
  exact⟨v,cellK x c e v z⟩
 ·obtain⟨m,⟨o,_,_,ho,_⟩,_⟩:=I.loc
  exact free _ o (λz=>(hch _ z).2.1 rfl) ho I.free
 ·obtain⟨v,o,ho,hd⟩:=I.cell x c e
  exact free c o (λz=>(hch c z).2.2.1 x c e rfl) ho (I.freeC x c e)
 ·obtain⟨e,n,ne,nf,d⟩:=I.pin p hp
  have nch:p.1∉ch:=λz=>(hch p.1 z).2.2.2 p hp rfl
  exact⟨keep p.1 p.2 ne nf nch e n,free p.1 p.2 nch e n,ne,nf,d⟩
theorem Inv.un{t':Nat}(I:Inv X pins σ H s)(u:Un X.fs [] H H' s.heap h')(hok:HOk X.prog X.w H' h'):Inv X pins σ H' { s with heap:=h',toks:=t' }:=by
 obtain⟨m,⟨o,es,ep,ho,r⟩,_⟩:=id I.loc
 obtain⟨sl,hL⟩:=u.any ho I.free (by simp)
 exact I.step (g':=s.gens) (d':=s.drawn) (ch:=[]) (λ_ z=>nomatch z) (λb o _ hb _ e n=>u.keep b o e n hb (by simp)) (λb o _ hb _ e n=>u.slot b o e n hb (by simp)) (λb o _ e n=>u.free b o e n (by simp)) (λb o _ e=>u.there b o e (by simp)) u.tups u.frzs u.tbls (λm' hm=>by
  obtain⟨o',es',ep',ho',r'⟩:=hm
  rw[ho]at ho';cases ho'
  exact⟨_,es',ep',hL,r'⟩) hok I.bare
theorem Inv.call{g':Array GenState}{t':Nat}{d':Drawn}{ch:List Addr}(I:Inv X pins σ H s)(u:Un (CP X.stack) ch H H' s.heap h')(hok:HOk X.prog X.w H' h')(hg:AllBare g')
  (hch:∀ b∈ch,(b∈X.ex\/X.s₀.heap.objs.size<=b)/\b≠X.env.locals/\(∀ x c,X.env.cells.lookup x=some c->c≠b)/\∀ p∈X.pn++pins,p.1≠b) :
  Inv X pins σ H' { s with heap:=h',gens:=g',drawn:=d',toks:=t' }:=by
 obtain⟨m,⟨o,es,ep,ho,r⟩,_⟩:=id I.loc
 obtain⟨sl,hL⟩:=u.any ho I.free λz=>(hch _ z).2.1 rfl
 exact I.step (ch:=ch) hch (λb o hL hb hc e n=>u.keep b o e n (λz=>(List.mem_cons.mp (I.stkSub b z)).elim hL hb) hc) (λb o _ _ hc e n=>u.any e n hc) (λb o hc e n=>u.free b o e n hc) (λb o hc e=>u.there b o e hc) u.tups u.frzs u.tbls (λm' hm=>by
  obtain⟨o',es',ep',ho',r'⟩:=hm
  rw[ho]at ho';cases ho'
  exact⟨_,es',ep',hL,r'⟩) hok hg
theorem Inv.turned{t':Nat}{it:Addr}(I:Inv X pins σ H s)(k:∀ b o,b≠it->s.heap.get? b=some o->h'.get? b=some o)(hn:H it=none)(hL:it≠X.env.locals)
  (h1:it∈X.ex\/X.s₀.heap.objs.size<=it) (h2:∀ x c,X.env.cells.lookup x=some c->c≠it) (h3:∀ p∈X.pn++pins,p.1≠it):Inv X pins σ H { s with heap:=h',toks:=t' }:=by
 have nit:∀ b u,H b=some u->b≠it:=λb u e z=>by rw[z,hn]at e;cases e
 refine I.step (g':=s.gens) (d':=s.drawn) (ch:=[it]) (λb hb=> ?_) (λb o _ _ hc e _=>k b o (λz=>hc (by simp[z])) e) (λb o _ _ hc e _=>⟨o.slots,k b o (λz=>hc (by simp[z])) e⟩) (λ_ _ _ _ n=>n)
  (λb o hc e=>⟨o,k b o (λz=>hc (by simp[z])) e⟩) (λ_ _ e=>e) (λ_ _ _ e=>e) (λb ps e=>⟨#[],by rw[e];simp⟩) (λm hm=> ?_) (λb u e=> ?_) I.bare
 ·have e:b=it:=by simpa using hb
  subst e
  exact⟨h1,hL,h2,h3⟩
 ·obtain⟨o,es,ep,ho,r⟩:=hm
  exact⟨o,es,ep,k _ o (Ne.symm hL) ho,r⟩
 ·refine(I.hok b u e).stay (λc v hc q=>k c v ?_ q) (λ_ q=>q) λ_ _ q=>q
  rcases hc with z | z
  ·rw[z];exact nit b u e
  ·exact nit c _ z
theorem Inv.tok(I:Inv X pins σ H s)(t:Nat):Inv X pins σ H { s with toks:=t }:=I.un (h':=s.heap) (t':=t) Un.refl I.hok
theorem Inv.kept{t':Nat}(I:Inv X pins σ H s)(k:∀ b u,s.heap.get? b=some u->h'.get? b=some u):Inv X pins σ H { s with heap:=h',toks:=t' }:=I.un (Un.kept k) (I.hok.kept k)
theorem Inv.laid{a:Addr}{o:HO}{t':Nat}(I:Inv X pins σ H s)(k:∀ b u,s.heap.get? b=some u->h'.get? b=some u)(hp:s.heap.objs.size<=a)(new:ObjOk X.prog X.w (upd H a o) h' a o) :
  Inv X pins σ (upd H a o) { s with heap:=h',toks:=t' }:=I.un (Un.laid k hp (I.hok.fresh hp)) (I.hok.laid k hp new)
theorem Inv.write{x e:Addr}{o:HO}{t':Nat}(I:Inv X pins σ H s)(mu:KD (H x))(he:e=x\/H e=some (.own x))(k:∀ b u,b≠e->s.heap.get? b=some u->h'.get? b=some u)(heo:∃ u,h'.get? e=some u)
  (new:ObjOk X.prog X.w (upd H x o) h' x o):Inv X pins σ (upd H x o) { s with heap:=h',toks:=t' }:=I.un (Un.write mu he k heo) (I.hok.write mu he k heo new)
theorem Inv.pins_of{pins':List (Addr × Obj)}(I:Inv X pins σ H s)(h:∀ p∈pins',s.heap.get? p.1=some p.2/\H p.1=none/\p.1≠X.env.locals/\p.1∉X.fs/\∀ v,p.2.data≠.cell v):Inv X pins' σ H s :=
 ⟨I.ok,I.os,I.bare,I.base,I.loc,I.cell,I.free,I.freeC,λp hp=>(List.mem_append.mp hp).elim (λz=>I.pin p (List.mem_append_left _ z)) (h p),I.hok,I.len⟩
theorem S6{N:List Str}(hN:N.Nodup){i j:Nat}{x:Str}(a:N[i]? =some x)(b:N[j]? =some x):i=j:=by
 obtain⟨h1,e1⟩:=List.getElem?_eq_some_iff.mp a
 obtain⟨h2,e2⟩:=List.getElem?_eq_some_iff.mp b
 exact(List.getElem_inj hN).mp (e1.trans e2.symm)
theorem S7{M:Model}{A:Around}{E:Value->Shared->Prop}{i:Nat}{x:Str}{v:V}{u:Value}{Q:Unit->Shared->Prop}(I:Inv X pins σ H s)(hN:X.N.Nodup)(hi:X.N[i]? =some x)(hx:HU X.env.scope x)(r:RelV v u)
  (h:∀ s',Inv X pins (σ.set i (some v)) H s'->(∃ a,Heap.SameBut a s.heap s'.heap/\(a=X.env.locals\/X.env.cells.lookup x=some a))->Q () s') (hf:X.fn x=true\/X.env.scope.names.lookup x=some .local:=by first | exact .inl rfl | exact .inr rfl | assumption):wpAny M A (storeName X.env x u) Q E s:=by
 obtain⟨m,hn,hl⟩:=id I.loc
 have hcls:(X.env.scope.kind == .class || (X.env.scope.kind == .module && X.env.locals != X.env.globals))=false:=by rw[I.ok.kind];rfl
 have hiσ:i<σ.length:=by rw[I.len];exact(List.getElem?_eq_some_iff.mp hi).1
 have cne:=I.cne
 have tracked:∀ {a:Addr} {h':Heap},(∃ o,s.heap.get? a=some o/\H a=none)->Heap.SameBut a s.heap h'->HOk X.prog X.w H h':=λ{a h'} ha hs b ob e=>by
  obtain⟨_,_,hfree⟩:=ha
  refine(I.hok b ob e).stay (λc w' hc q=>(hs.2 c ?_).trans q) (λ_ q=>q) λ_ _ q=>q
  rintro rfl
  rcases hc with rfl | hc
  ·rw[hfree]at e;cases e
  ·rw[hfree]at hc;cases hc
 rcases hx with hk | hk
 ·refine wpAny_storeName_local hk hn (λh' hn' hs=> ?_) hcls
  obtain⟨oL,_,_,hoL,_⟩:=id hn
  refine h _ ⟨I.ok,I.os,I.bare,⟨λb o e n hb hx=> ?_,λb o e n hb hx=> ?_,I.base.free,λb o e hx=> ?_,I.base.tups,I.base.frzs,I.base.tbls⟩,⟨_,hn',λj y v' e1 e2 e3=> ?_⟩,λy c e=> ?_,I.free,I.freeC,λp hp=> ?_,tracked ⟨oL,hoL,I.free⟩ hs,by simpa using I.len⟩ ⟨_,hs,.inl rfl⟩
  ·exact(hs.2 b (Nat.ne_of_lt (Nat.lt_of_lt_of_le (Heap.lt_size e) I.ok.above))).trans (I.base.keep b o e n hb hx)
  ·obtain⟨sl,e1⟩:=I.base.slot b o e n hb hx
   exact⟨sl,(hs.2 b (Nat.ne_of_lt (Nat.lt_of_lt_of_le (Heap.lt_size e) I.ok.above))).trans e1⟩
  ·obtain⟨o',e1⟩:=I.base.there b o e hx
   exact⟨o',(hs.2 b (Nat.ne_of_lt (Nat.lt_of_lt_of_le (Heap.lt_size e) I.ok.above))).trans e1⟩
  ·by_cases hj:j=i
   ·subst hj
    rw[hi]at e1;cases e1
    rw[List.getElem?_set_self hiσ]at e2
    cases e2
    exact⟨u,r,.inl ⟨hk,by simp⟩⟩
   ·rw[List.getElem?_set_ne (Ne.symm hj)]at e2
    obtain⟨u',r',q⟩:=hl j y v' e1 e2 e3
    refine⟨u',r',?_⟩
    rcases q with⟨k,e⟩ | ⟨k,c,e,z⟩
    ·refine .inl ⟨k,?_⟩
     have:y≠x:=λe=>hj (S6 hN e1 (e ▸ hi))
     simp[this,e]
    ·exact .inr ⟨k,c,e,z.sameBut hs (cne y c e)⟩
  ·obtain⟨w',z⟩:=I.cell y c e
   exact⟨w',z.sameBut hs (cne y c e)⟩
  ·obtain⟨e,n,ne,nf,d⟩:=I.pin p hp
   exact⟨(hs.2 p.1 ne).trans e,n,ne,nf,d⟩
 ·have hfn:X.fn x=true:=by
   rcases hf with z | z
   ·exact z
   ·rw[z]at hk;cases hk
  obtain⟨c,hc⟩:=I.ok.has x (.inl hk)
  obtain⟨w',z⟩:=I.cell x c hc
  refine wpAny_storeName_cell I.ok.kind hk hc z (λh' hc' hs=> ?_)
  obtain⟨oc,hoc,hocd⟩:=id z
  refine h { s with heap:=h' } ⟨I.ok,I.os,I.bare,⟨λb o e n hb hx=> ?_,λb o e n hb hx=> ?_,I.base.free,λb o e hx=> ?_,I.base.tups,I.base.frzs,I.base.tbls⟩,⟨m,hn.sameBut hs (Ne.symm (cne x c hc)),λj y v' e1 e2 e3=> ?_⟩,λy c' e=> ?_,I.free,I.freeC,λp hp=> ?_,tracked ⟨oc,hoc,I.freeC x c hc⟩ hs,by simpa using I.len⟩ ⟨c,hs,.inr hc⟩
  ·exact(hs.2 b (Nat.ne_of_lt (Nat.lt_of_lt_of_le (Heap.lt_size e) (I.ok.cab x c hfn hc)))).trans (I.base.keep b o e n hb hx)
  ·obtain⟨sl,e1⟩:=I.base.slot b o e n hb hx
   exact⟨sl,(hs.2 b (Nat.ne_of_lt (Nat.lt_of_lt_of_le (Heap.lt_size e) (I.ok.cab x c hfn hc)))).trans e1⟩
  ·obtain⟨o',e1⟩:=I.base.there b o e hx
   exact⟨o',(hs.2 b (Nat.ne_of_lt (Nat.lt_of_lt_of_le (Heap.lt_size e) (I.ok.cab x c hfn hc)))).trans e1⟩
  ·by_cases hj:j=i
   ·subst hj
    rw[hi]at e1;cases e1
    rw[List.getElem?_set_self hiσ]at e2
    cases e2
    exact⟨u,r,.inr ⟨.inl hk,c,hc,hc'⟩⟩
   ·rw[List.getElem?_set_ne (Ne.symm hj)]at e2
    obtain⟨u',r',q⟩:=hl j y v' e1 e2 e3
    refine⟨u',r',?_⟩
    rcases q with q | ⟨k,c',e,z'⟩
    ·exact .inl q
    ·refine .inr ⟨k,c',e,z'.sameBut hs ?_⟩
     rintro rfl
     exact hj (S6 hN e1 (I.ok.inj _ _ _ e hc ▸ hi))
  ·by_cases hcc:c'=c
   ·subst hcc;exact⟨_,hc'⟩
   ·obtain⟨w2,z2⟩:=I.cell y c' e
    exact⟨w2,z2.sameBut hs hcc⟩
  ·obtain⟨e,n,ne,nf,d⟩:=I.pin p hp
   refine⟨(hs.2 p.1 ?_).trans e,n,ne,nf,d⟩
   intro q
   rw[q,hoc]at e
   have q':oc=p.2:=Option.some.inj e
   exact d w' (by rw[<-q'];exact hocd)
theorem S8{M:Model}{A:Around}{E:Value->Shared->Prop}{i:Nat}{x:Str}{v:V}{u:Value}{Q:Unit->Shared->Prop}(I:Inv X pins σ H s)(hN:X.N.Nodup)(hi:X.N[i]? =some x)(hx:HU X.env.scope x)(r:RelV v u)
  (h:∀ s',Inv X pins (σ.set i (some v)) H s'->Q () s') (hf:X.fn x=true\/X.env.scope.names.lookup x=some .local:=by first | exact .inl rfl | exact .inr rfl | assumption):wpAny M A (storeName X.env x u) Q E s :=
 S7 I hN hi hx r (λs' I' _=>h s' I') hf
theorem Inv.call'{s':Shared}{ch:List Addr}(I:Inv X pins σ H s)(ho:s'.os=s.os)(u:Un (CP X.stack) ch H H' s.heap s'.heap)(hok:HOk X.prog X.w H' s'.heap)(hg:AllBare s'.gens)
  (hch:∀ b∈ch,(b∈X.ex\/X.s₀.heap.objs.size<=b)/\b≠X.env.locals/\(∀ x c,X.env.cells.lookup x=some c->c≠b)/\∀ p∈X.pn++pins,p.1≠b):Inv X pins σ H' s':=by
 obtain⟨h',g',d',t',o'⟩:=s'
 have e:o'=s.os:=ho
 subst e
 exact I.call (g':=g') (t':=t') (d':=d') u hok hg hch
end
abbrev XK:=Value->Option Addr->Hp->Prop
abbrev St:=List (Option V)
abbrev VK:=V->Hp->Prop
abbrev TE:=St->Hp->VK->Prop
abbrev TT:=St->Hp->(Bool->Hp->Prop)->Prop
abbrev TA:=St->Hp->(List V->Hp->Prop)->Prop
structure Ends where
 nx:St->Hp->Prop
 rt:VK
 bk:St->Hp->Prop:=λ_ _=>False
 ct:St->Hp->Prop:=λ_ _=>False
abbrev TS:=Ends->St->Hp->Prop
def EP(X:Cx)(pins:List (Addr × Obj))(σ:St)(Q:VK)(u:Value)(s':Shared):Prop:=∃ v H',Inv X pins σ H' s'/\RelV v u/\Q v H'
def TP(X:Cx)(pins:List (Addr × Obj))(σ:St)(Q:Bool->Hp->Prop)(b:Bool)(s':Shared):Prop:=∃ H',Inv X pins σ H' s'/\Q b H'
def AP(X:Cx)(pins:List (Addr × Obj))(σ:St)(Q:List V->Hp->Prop)(us:List Value)(s':Shared):Prop:=∃ vs H',Inv X pins σ H' s'/\Vals vs us/\Q vs H'
def SP(X:Cx)(pins:List (Addr × Obj))(D:Ends)(f:Flow)(s':Shared):Prop :=
 match f with
 | .next=>∃ σ' H',Inv X pins σ' H' s'/\D.nx σ' H'
 | .brk=>∃ σ' H',Inv X pins σ' H' s'/\D.bk σ' H'
 | .cont=>∃ σ' H',Inv X pins σ' H' s'/\D.ct σ' H'
 | .ret u=>∃ v σ' H',Inv X pins σ' H' s'/\RelV v u/\D.rt v H'
def PE(X:Cx)(e:Expr)(t:TE):Prop :=
 ∀ (pins:List (Addr × Obj)) (s:Shared) (σ:St) (H:Hp) (Q:VK),Inv X pins σ H s->t σ H Q->wpAny (model X.prog X.w) X.A (eval e X.env) (EP X pins σ Q) X.xe s
def PT(X:Cx)(e:Expr)(t:TT):Prop :=
 ∀ (pins:List (Addr × Obj)) (s:Shared) (σ:St) (H:Hp) (Q:Bool->Hp->Prop),Inv X pins σ H s->t σ H Q->wpAny (model X.prog X.w) X.A (isTrue e X.env (eval e X.env)) (TP X pins σ Q) X.xe s
def PW(X:Cx)(e:Expr)(t:TT):Prop :=
 ∀ (whole:Sem Value) (pins:List (Addr × Obj)) (s:Shared) (σ:St) (H:Hp) (Q:Bool->Hp->Prop),Inv X pins σ H s->t σ H Q->wpAny (model X.prog X.w) X.A (isTrue e X.env whole) (TP X pins σ Q) X.xe s
theorem PW.pt{X:Cx}{e:Expr}{t:TT}(h:PW X e t):PT X e t:=h _
def PA(X:Cx)(es:List Expr)(t:TA):Prop :=
 ∀ (pos:Pos) (pins:List (Addr × Obj)) (s:Shared) (σ:St) (H:Hp) (Q:List V->Hp->Prop),Inv X pins σ H s->t σ H Q->wpAny (model X.prog X.w) X.A (spliced (backTo pos (starEach es X.env))) (AP X pins σ Q) X.xe s
def PS(X:Cx)(st:Stmt)(t:TS):Prop :=
 ∀ (pins:List (Addr × Obj)) (s:Shared) (σ:St) (H:Hp) (D:Ends),Inv X pins σ H s->t D σ H->wpAny (model X.prog X.w) X.A (exec st X.env) (SP X pins D) X.xe s
def PSs(X:Cx)(st:List Stmt)(t:TS):Prop :=
 ∀ (pins:List (Addr × Obj)) (s:Shared) (σ:St) (H:Hp) (D:Ends),Inv X pins σ H s->t D σ H->wpAny (model X.prog X.w) X.A (execs st X.env) (SP X pins D) X.xe s
theorem AM{α :Type}{t:Sem α}{Q Q': α ->Shared->Prop}{M:Model}{A:Around}{E:Value->Shared->Prop}{s:Shared}(h:wpAny M A t Q E s)(hQ:∀ a s,Q a s->Q' a s):wpAny M A t Q' E s:=wpAny_mono h hQ λ_ _ x=>x
end L2
namespace L2
section
variable{X:Cx}
def NW(i:Nat):TE:=λσ H Q=>∃ v,σ[i]? =some (some v)/\Q v H
def tC(v:V):TE:=λ_ H Q=>Q v H
theorem dS{i:Nat}{x:Str}{pos:Pos}(hN:X.N[i]? =some x)(hv:NV X.env.scope x)(hd:(x ==("__debug__":Str))=false:=by decide)(hcd:(x ==("__classdict__":Str))=false:=by decide):PE X (.Name x pos) (NW i):=by
 intro pins s σ H Q I h
 obtain⟨v,e,h⟩:=h
 obtain⟨m,hn,hl⟩:=I.loc
 obtain⟨u,r,l⟩:=hl i x v hN e hv
 have fin:EP X pins σ Q u s:=⟨v,H,I,r,h⟩
 rcases l with⟨hk,hm⟩ | ⟨hk,c,hc,hcell⟩
 ·exact wpAny_Name (wpAny_loadName_local I.ok.kind hk hn hm fin) hd
 ·rcases hk with hk | hk
  ·exact wpAny_Name (wpAny_loadName_cell I.ok.kind hk hc hcell fin) hd
  ·exact wpAny_Name (wpAny_loadName_free I.ok.kind hk hc hcell fin hcd) hd
theorem AL{i j pos}:PE X (.Constant (.int i) j pos) (tC (.int i)):=λ_ _ _ H _ I h=>wpAny_Constant_int ⟨.int i,H,I.tok _,⟨_,rfl⟩,h⟩
theorem CN{b j pos}:PE X (.Constant (.bool b) j pos) (tC (.bl b)):=λ_ _ _ H _ I h=>Constant_bool ⟨.bl b,H,I,rfl,h⟩
theorem LM{j pos}:PE X (.Constant .none j pos) (tC .non):=λ_ _ _ H _ I h=>Constant_none ⟨.non,H,I,rfl,h⟩
theorem LN{x j pos}:PE X (.Constant (.str x) j pos) (tC (.str x)):=λ_ _ _ H _ I h=>Calls.Constant_str ⟨.str x,H,I.tok _,⟨_,rfl⟩,h⟩
def Gl(X:Cx)(x:Str):Prop:=X.env.kindOf x=some .globalImplicit
theorem HV{E:Value->Shared->Prop}{pins:List (Addr × Obj)}{s:Shared}{σ:St}{H:Hp}{x:Str}{u:Value}{pos:Pos}{Q:Value->Shared->Prop}(I:Inv X pins σ H s)(hg:Gl X x)(hm:X.mg x=some u)(h:Q u s)
  (hd:(x ==("__debug__":Str))=false:=by decide):wpAny (model X.prog X.w) X.A (eval (.Name x pos) X.env) Q E s :=
 Calls.Name_function_global I.ok.kind hg (Calls.loadGlobal_global (by rw[I.ok.glob];exact I.mod.glob.keeps I.bk) hm h) hd
theorem LO{E:Value->Shared->Prop}{pins:List (Addr × Obj)}{s:Shared}{σ:St}{H:Hp}{x:Str}{u:Value}{pos:Pos}{Q:Value->Shared->Prop}(I:Inv X pins σ H s)(hg:Gl X x)(hm:X.mg x=none)(hv:bootBuiltins x=some u)(h:Q u s)
  (hn:x≠"__name__":=by decide) (hd:(x ==("__debug__":Str))=false:=by decide):wpAny (model X.prog X.w) X.A (eval (.Name x pos) X.env) Q E s:=by
 obtain⟨mb,h1,h2⟩:=I.mod.blt
 exact Calls.Name_function_global I.ok.kind hg (Calls.loadGlobal_builtin (by rw[I.ok.glob];exact I.mod.glob.keeps I.bk) hm (by rw[I.ok.blt];exact h1.keeps I.bk) ((h2 x hn).trans hv) h) hd
theorem dU{x:Str}{v:V}{u:Value}{pos:Pos}(hg:Gl X x)(hm:X.mg x=some u)(r:RelV v u)(hd:(x ==("__debug__":Str))=false:=by decide):PE X (.Name x pos) (tC v) :=
 λ_ _ _ H _ I h=>HV I hg hm ⟨v,H,I,r,h⟩ hd
theorem KE{x:Str}{v:V}{u:Value}{pos:Pos}(hg:Gl X x)(hm:X.mg x=none)(hv:bootBuiltins x=some u)(r:RelV v u)(hn:x≠"__name__":=by decide)(hd:(x ==("__debug__":Str))=false:=by decide):PE X (.Name x pos) (tC v) :=
 λ_ _ _ H _ I h=>LO I hg hm hv ⟨v,H,I,r,h⟩ hn hd
variable{a b:Expr}{ta tb:TE}{pos:Pos}
def PC(X:Cx)(op:CmpOp)(a b:Expr)(t:TE):Prop :=
 ∀ (pins:List (Addr × Obj)) (s:Shared) (σ:St) (H:Hp) (Q:VK),Inv X pins σ H s->t σ H Q →
  wpAny (model X.prog X.w) X.A (eval a X.env) (λv s₁=>wpAny (model X.prog X.w) X.A (eval b X.env) (λu s₂=>wpAny (model X.prog X.w) X.A (compareOp op v u) (EP X pins σ Q) X.xe s₂) X.xe s₁) X.xe s
theorem dX(b:Expr){op:CmpOp}(h:op≠.In)(h2:op≠.NotIn):behindInMarks op b=false:=by
 have e1:(op == CmpOp.In)=false:=by cases op<;>first | rfl | exact absurd rfl h
 have e2:(op == CmpOp.NotIn)=false:=by cases op<;>first | rfl | exact absurd rfl h2
 cases b<;>simp[behindInMarks,e1,e2]
def tB(t:TE):TT:=λσ H Q=>t σ H λx H1=>∃ c,x=.bl c/\Q c H1
theorem F9{op:CmpOp}{t:TE}(h:PC X op a b t)(h1:behindInMarks op b=false:=by first | exact dX _ (by decide) (by decide) | rfl):PT X (.Compare a [op] [b] pos) (tB t):=by
 intro pins s σ H Q I hw
 refine wpAny_isTrue_Compare1 (AM (h pins s σ H _ I hw) λv s1 h1=>AM h1 λu s2 h2=>AM h2 λc s3 ⟨x,H1,I1,r1,q1⟩=> ?_) h1
 obtain⟨d,rfl,q⟩:=q1
 cases r1
 exact wpAny_truthy_bool ⟨H1,I1,q⟩
variable{tA tB':TT}{CW:List Expr}
def HW(t u:TT):TT:=λσ H Q=>t σ H λc H1=>if c=true then u σ H1 Q else Q false H1
def GA(t u:TT):TT:=λσ H Q=>t σ H λc H1=>if c=true then Q true H1 else u σ H1 Q
def C5(t:TT):TT:=λσ H Q=>t σ H λc H1=>Q (!c) H1
theorem LP(ha:PT X a tA):PW X (.BoolOp .And [a] pos) tA:=by
 intro wh pins s σ H Q I h
 refine isTrue_and (AM (ha pins s σ H Q I h) λc s1 e=> ?_)
 cases c with
 | true=>exact isTrue_and_nil e
 | false=>exact e
theorem LQ(ha:PT X a tA):PW X (.BoolOp .Or [a] pos) tA:=by
 intro wh pins s σ H Q I h
 refine isTrue_or (AM (ha pins s σ H Q I h) λc s1 e=> ?_)
 cases c with
 | false=>exact isTrue_or_nil e
 | true=>exact e
theorem LR(ha:PT X a tA)(hb:PW X (.BoolOp .And (b::CW) pos) tB'):PW X (.BoolOp .And (a::b::CW) pos) (HW tA tB'):=by
 intro wh pins s σ H Q I h
 refine isTrue_and (AM (ha pins s σ H _ I h) λc s1 ⟨H1,I1,q1⟩=> ?_)
 cases c with
 | true=>exact hb wh pins s1 σ H1 Q I1 q1
 | false=>exact⟨H1,I1,q1⟩
theorem HX(ha:PT X a tA)(hb:PW X (.BoolOp .Or (b::CW) pos) tB'):PW X (.BoolOp .Or (a::b::CW) pos) (GA tA tB'):=by
 intro wh pins s σ H Q I h
 refine isTrue_or (AM (ha pins s σ H _ I h) λc s1 ⟨H1,I1,q1⟩=> ?_)
 cases c with
 | true=>exact⟨H1,I1,q1⟩
 | false=>exact hb wh pins s1 σ H1 Q I1 q1
theorem DH(ha:PT X a tA):PT X (.UnaryOp .Not a pos) (C5 tA):=by
 intro pins s σ H Q I h
 exact isTrue_not (ha pins s σ H (λc H1=>Q (!c) H1) I h)
def LS(ta tb:TE):TE:=λσ H Q=>ta σ H λx H1=>∃ c,x=.bl c/\if c=true then tb σ H1 Q else Q (.bl false) H1
def NX(ta tb:TE):TE:=λσ H Q=>ta σ H λx H1=>∃ c,x=.bl c/\if c=true then Q (.bl true) H1 else tb σ H1 Q
theorem S9{op}{t:TE}(h:PE X a t):PE X (.BoolOp op [a] pos) t:=λpins s σ H Q I hw=>BoolOp_one (h pins s σ H Q I hw)
theorem TC(ha:PE X a ta)(hb:PE X (.BoolOp .And (b::CW) pos) tb):PE X (.BoolOp .And (a::b::CW) pos) (LS ta tb):=by
 intro pins s σ H Q I h
 refine BoolOp_and (AM (ha pins s σ H _ I h) λv s1 ⟨x,H1,I1,r1,q1⟩=> ?_)
 obtain⟨c,rfl,q1⟩:=q1
 cases r1
 refine wpAny_truthy_bool ?_
 cases c with
 | true=>exact hb pins s1 σ H1 Q I1 q1
 | false=>exact⟨.bl false,H1,I1,rfl,q1⟩
theorem dY(ha:PE X a ta)(hb:PE X (.BoolOp .Or (b::CW) pos) tb):PE X (.BoolOp .Or (a::b::CW) pos) (NX ta tb):=by
 intro pins s σ H Q I h
 refine BoolOp_or (AM (ha pins s σ H _ I h) λv s1 ⟨x,H1,I1,r1,q1⟩=> ?_)
 obtain⟨c,rfl,q1⟩:=q1
 cases r1
 refine wpAny_truthy_bool ?_
 cases c with
 | false=>exact hb pins s1 σ H1 Q I1 q1
 | true=>exact⟨.bl true,H1,I1,rfl,q1⟩
def dZ(t:TT)(ta tb:TE):TE:=λσ H Q=>t σ H λc H1=>if c=true then ta σ H1 Q else tb σ H1 Q
end
end L2
namespace L2
def SqL(K:W.Frag)(H:Hp)(a:Addr)(xs:List V):Prop :=
 Rd H a (.lst xs) ∨
  ∃ (o:Obj) (its:Array Value) (n:Nat),K.lookup a=some o/\o.cls=.type "list"/\o.dict=none/\o.data=.seq its n/\its.size<=sizeLine/\Vals xs its.toList
def SqT(K:W.Frag)(H:Hp)(a:Addr)(xs:List V):Prop :=
 Rd H a (.tup xs) ∨
  ∃ (o:Obj) (its:Array Value) (n:Nat),K.lookup a=some o/\o.cls=.type "tuple"/\o.data=.seq its n/\its.size<=sizeLine/\Vals xs its.toList
def d6:Value->Option V
 | .none=>some .non
 | .bool b=>some (.bl b)
 | .int i _=>some (.int i)
 | .str x _=>some (.str x)
 | .bytes b _=>some (.byt b)
 | .float b _=>some (.flt b)
 | .ref a=>some (.ref a)
 | .type n=>some (.ty n)
 | _=>none
theorem RelV.abs{x:V}{u:Value}(r:RelV x u):d6 u=some x:=by
 cases x with
 | non=>cases r;rfl
 | bl _=>cases r;rfl
 | int _=>obtain⟨t,rfl⟩:=r;rfl
 | str _=>obtain⟨t,rfl⟩:=r;rfl
 | byt _=>obtain⟨t,rfl⟩:=r;rfl
 | flt _=>obtain⟨t,rfl⟩:=r;rfl
 | ref _=>cases r;rfl
 | ty _=>cases r;rfl
theorem RelV.inj{x y:V}{u:Value}(r:RelV x u)(q:RelV y u):x=y:=Option.some.inj (r.abs.symm.trans q.abs)
theorem Vals.inj:∀ {xs ys:List V} {us:List Value},Vals xs us->Vals ys us->xs=ys
 | _,_,_,.nil,.nil=>rfl
 | _,_,_,.cons r t,.cons r' t'=>by rw[r.inj r',Vals.inj t t']
section
variable{X:Cx}{pins:List (Addr × Obj)}{σ:St}{H:Hp}{s:Shared}{a:Addr}{xs ys:List V}
theorem SqL.of{K:W.Frag}(h:H a=some (.lst xs)):SqL K H a xs:=.inl (.inl h)
theorem SqT.of{K:W.Frag}(h:H a=some (.tup xs)):SqT K H a xs:=.inl (.inl h)
theorem Inv.list(I:Inv X pins σ H s)(h:SqL X.K H a xs):∃ its:List Value,Vals xs its/\PlainL s.heap a its.toArray/\xs.length<=sizeLine:=by
 rcases h with h | ⟨o,its,n,hk,hc,hd,hs,hz,r⟩
 ·obtain⟨z,its,n,r,e⟩:=h.ok I.hok
  exact⟨its,r,⟨_,n,e,rfl,rfl,rfl⟩,z⟩
 ·refine⟨its.toList,r,⟨o,n,I.kIn a o hk,hc,hd,by simpa using hs⟩,?_⟩
  have e:=r.length
  simp only[Array.length_toList]at e
  omega
theorem Inv.tuple(I:Inv X pins σ H s)(h:SqT X.K H a xs):∃ its:List Value,Vals xs its/\IsTup s.heap a its.toArray/\xs.length<=sizeLine:=by
 rcases h with h | ⟨o,its,n,hk,hc,hs,hz,r⟩
 ·obtain⟨z,its,r,p⟩:=h.ok I.hok
  exact⟨its,r,p,z⟩
 ·refine⟨its.toList,r,⟨o,I.kIn a o hk,hc,n,by simpa using hs⟩,?_⟩
  have e:=r.length
  simp only[Array.length_toList]at e
  omega
theorem Inv.list_inj(I:Inv X pins σ H s)(h:SqL X.K H a xs)(h':SqL X.K H a ys):xs=ys:=by
 obtain⟨its,r,⟨o,n,e,_,_,d⟩,_⟩:=I.list h
 obtain⟨its',r',⟨o',n',e',_,_,d'⟩,_⟩:=I.list h'
 rw[e]at e';cases e'
 rw[d]at d'
 injection d' with d1 _
 have:its=its':=by simpa using congrArg Array.toList d1
 subst this
 exact r.inj r'
theorem Inv.tuple_inj(I:Inv X pins σ H s)(h:SqT X.K H a xs)(h':SqT X.K H a ys):xs=ys:=by
 obtain⟨its,r,⟨o,e,_,n,d⟩,_⟩:=I.tuple h
 obtain⟨its',r',⟨o',e',_,n',d'⟩,_⟩:=I.tuple h'
 rw[e]at e';cases e'
 rw[d]at d'
 injection d' with d1 _
 have:its=its':=by simpa using congrArg Array.toList d1
 subst this
 exact r.inj r'
end
abbrev Cx.wish(X:Cx)(E:Value->Shared->Prop):Cx:={ X with xe:=E }
abbrev Cx.nox(X:Cx):Cx:=X.wish λ_ _=>False
theorem Cx.Ok.wish{X:Cx}(ok:X.Ok)(E:Value->Shared->Prop):(X.wish E).Ok :=
 ⟨ok.mod,ok.kind,ok.glob,ok.blt,ok.above,ok.inj,ok.has,ok.cab,ok.hd,ok.frames,ok.stk,ok.exf,ok.bs,ok.bsz,ok.noex,ok.exfs,ok.funs,ok.frf⟩
theorem Cx.Ok.unwish{X:Cx}{E:Value->Shared->Prop}(ok:(X.wish E).Ok):X.Ok :=
 ⟨ok.mod,ok.kind,ok.glob,ok.blt,ok.above,ok.inj,ok.has,ok.cab,ok.hd,ok.frames,ok.stk,ok.exf,ok.bs,ok.bsz,ok.noex,ok.exfs,ok.funs,ok.frf⟩
section
variable{X:Cx}{pins:List (Addr × Obj)}{σ:St}{H:Hp}{s:Shared}{E:Value->Shared->Prop}
theorem Inv.wish(I:Inv X pins σ H s)(E:Value->Shared->Prop):Inv (X.wish E) pins σ H s:=⟨I.ok.wish E,I.os,I.bare,I.base,I.loc,I.cell,I.free,I.freeC,I.pin,I.hok,I.len⟩
theorem Inv.unwish(I:Inv (X.wish E) pins σ H s):Inv X pins σ H s:=⟨I.ok.unwish,I.os,I.bare,I.base,I.loc,I.cell,I.free,I.freeC,I.pin,I.hok,I.len⟩
theorem SP.unwish{D:Ends}{f:Flow}{s':Shared}(h:SP (X.wish E) pins D f s'):SP X pins D f s':=by
 cases f with
 | next=>obtain⟨σ',H',I,q⟩:=h;exact⟨σ',H',I.unwish,q⟩
 | brk=>obtain⟨σ',H',I,q⟩:=h;exact⟨σ',H',I.unwish,q⟩
 | cont=>obtain⟨σ',H',I,q⟩:=h;exact⟨σ',H',I.unwish,q⟩
 | ret u=>obtain⟨v,σ',H',I,r,q⟩:=h;exact⟨v,σ',H',I.unwish,r,q⟩
theorem PE.nox{e:Expr}{t:TE}(h:PE X.nox e t):PE X e t:=λpins s σ H Q I hw =>
 wpAny_mono (h pins s σ H Q (I.wish _) hw) (λ_ _ ⟨v,H',I',r,q⟩=>⟨v,H',I'.unwish,r,q⟩) λ_ _ z=>False.elim z
theorem PT.nox{e:Expr}{t:TT}(h:PT X.nox e t):PT X e t:=λpins s σ H Q I hw =>
 wpAny_mono (h pins s σ H Q (I.wish _) hw) (λ_ _ ⟨H',I',q⟩=>⟨H',I'.unwish,q⟩) λ_ _ z=>False.elim z
theorem PSs.nox{st:List Stmt}{t:TS}(h:PSs X.nox st t):PSs X st t:=λpins s σ H D I hw =>
 wpAny_mono (h pins s σ H D (I.wish _) hw) (λ_ _ q=>q.unwish) λ_ _ z=>False.elim z
end
section
variable{X:Cx}{st:Stmt}{CW:List Stmt}{t u:TS}{e:Expr}{te:TE}{pos:Pos}
def BP:TS:=λD σ H=>D.nx σ H
def AJ(t u:TS):TS:=λD σ H=>t { D with nx:=u D } σ H
theorem BT:PSs X [] BP:=λ_ _ σ H _ I h=>wpAny_execs_nil ⟨σ,H,I,h⟩
theorem AN(h1:PS X st t)(h2:PSs X CW u):PSs X (st::CW) (AJ t u):=by
 intro pins s σ H D I h
 refine wpAny_execs_cons (AM (h1 pins s σ H { D with nx:=u D } I h) λf s1 q=> ?_)
 cases f with
 | next =>
  obtain⟨σ',H',I',q⟩:=q
  exact h2 pins s1 σ' H' D I' q
 | ret v=>exact q
 | brk=>exact q
 | cont=>exact q
theorem AQ(h1:PS X st t):PSs X [st] t:=by
 intro pins s σ H D I h
 refine wpAny_execs_cons (AM (h1 pins s σ H D I h) λf s1 q=> ?_)
 cases f with
 | next=>exact wpAny_execs_nil q
 | ret v=>exact q
 | brk=>exact q
 | cont=>exact q
def d7:TS:=λD σ H=>D.bk σ H
def d8:TS:=λD σ H=>D.ct σ H
theorem Inv.quiet{pins:List (Addr × Obj)}{σ:St}{H:Hp}{s:Shared}(I:Inv X pins σ H s):interactive X.env=false:=by simp[interactive,I.ok.kind]
def CY(te:TE):TS:=λD σ H=>te σ H λ_ H1=>D.nx σ H1
theorem C6(he:PE X e te)(hs:swapsWith e none pos.line X.env=pure false:=by rfl):PS X (.Expr e pos) (CY te):=by
 intro pins s σ H D I h
 exact wpAny_Expr_any (AM (he pins s σ H _ I h) λv s1 ⟨x,H1,I1,r1,q1⟩=>⟨σ,H1,I1,q1⟩) I.quiet hs
def AZ(te:TE):TS:=λD σ H=>te σ H D.rt
theorem A3(he:PE X e te):PS X (.Return (some e) pos) (AZ te):=by
 intro pins s σ H D I h
 exact wpAny_Return_some (AM (he pins s σ H _ I h) λv s1 ⟨x,H1,I1,r1,q1⟩=>⟨x,σ,H1,I1,r1,q1⟩)
def d9:TS:=λD _ H=>D.rt .non H
def BN(c:TT)(t u:TS):TS:=λD σ H=>c σ H λb H1=>if b=true then t D σ H1 else u D σ H1
theorem BR{c:Expr}{a b:List Stmt}{tc:TT}(hc:PT X c tc)(ha:PSs X a t)(hb:PSs X b u):PS X (.If c a b pos) (BN tc t u):=by
 intro pins s σ H D I h
 refine wpAny_If (AM (hc pins s σ H _ I h) λd s1 ⟨H1,I1,q1⟩=> ?_)
 cases d with
 | true=>exact ha pins s1 σ H1 D I1 q1
 | false=>exact hb pins s1 σ H1 D I1 q1
end
abbrev TG:=V->St->Hp->(St->Hp->Prop)->Prop
abbrev KF:=List V->St->Hp->(St->Hp->Prop)->Prop
def PG(X:Cx)(target:Expr)(t:TG):Prop :=
 ∀ (pins:List (Addr × Obj)) (s:Shared) (σ:St) (H:Hp) (v:V) (u:Value) (Q:St->Hp->Prop),Inv X pins σ H s->RelV v u->t v σ H Q →
  wpAny (model X.prog X.w) X.A (assign target X.env u) (λ_ s'=>∃ σ' H',Inv X pins σ' H' s'/\Q σ' H') X.xe s
abbrev LT:=V->V->V->Hp->(Hp->Prop)->Prop
def NY(X:Cx)(t:LT):Prop :=
 ∀ (pins:List (Addr × Obj)) (s:Shared) (σ:St) (H:Hp) (o i v:V) (ov iv u:Value) (Q:Hp->Prop),Inv X pins σ H s->RelV o ov->RelV i iv->RelV v u->t o i v H Q →
  wpAny (model X.prog X.w) X.A (setItem ov iv u) (λ_ s'=>∃ H',Inv X pins σ H' s'/\Q H') X.xe s
abbrev LU:=V->V->Hp->VK->Prop
section
variable{X:Cx}{pos:Pos}
def AR(i:Nat):TG:=λv σ H Q=>Q (σ.set i (some v)) H
theorem HY{i:Nat}{x:Str}(hN:X.N.Nodup)(hi:X.N[i]? =some x)(hx:HU X.env.scope x)(hf:X.fn x=true\/X.env.scope.names.lookup x=some .local:=by first | exact .inl rfl | exact .inr rfl | assumption):PG X (.Name x pos) (AR i):=by
 intro pins s σ H v u Q I r h
 exact wpAny_assign_Name (S8 I hN hi hx r (λs' I'=>⟨_,H,I',h⟩) hf)
def eA:KF:=λvs σ H Q=>vs=[]/\Q σ H
def eB(t:TG)(u:KF):KF:=λvs σ H Q=>∃ v r,vs=v::r/\t v σ H λσ' H'=>u r σ' H' Q
def eC(K:W.Frag)(n:Nat)(t:KF):TG:=λv σ H Q=>∃ a xs,v=.ref a/\SqT K H a xs/\xs.length=n/\t xs σ H Q
def LV(to ti:TE)(t:LT):TG:=λv σ H Q=>to σ H λo H1=>ti σ H1 λi H2=>t o i v H2 λH3=>Q σ H3
theorem TD{o i:Expr}{to ti:TE}{t:LT}(ho:PE X o to)(hi:PE X i ti)(hs:NY X t)
  (ha:∀ v,assign (.Subscript o i pos) X.env v=(do
   let ov ← holding [v] (eval o X.env)
   let iv ← holding [v,ov] (eval i X.env)
   standAt pos
   holding [v,ov,iv] (setItem ov iv v)
   release [v,ov,iv] []):=by intro _;rfl):PG X (.Subscript o i pos) (LV to ti t):=by
 intro pins s σ H v u Q I r h
 rw[ha]
 refine wpAny_bind (wpAny_holding (AM (ho pins s σ H _ I h) λov s1 ⟨x,H1,I1,r1,q1⟩=> ?_))
 refine wpAny_bind (wpAny_holding (AM (hi pins s1 σ H1 _ I1 q1) λiv s2 ⟨y,H2,I2,r2,q2⟩=> ?_))
 refine wpAny_bind (wpAny_standAt (wpAny_bind (wpAny_holding (AM (hs pins s2 σ H2 x y v ov iv u _ I2 r1 r2 r q2) λ_ s3 ⟨H3,I3,q3⟩=> ?_))))
 exact wpAny_release ⟨σ,H3,I3,q3⟩
def A4(te:TE)(g:TG):TS:=λD σ H=>te σ H λx H1=>g x σ H1 D.nx
theorem TF{tg e:Expr}{te:TE}{g:TG}(he:PE X e te)(hg:PG X tg g)(hs:swapsWithSole [tg] e pos.line X.env=pure false:=by rfl)(hw:swappedStores [tg] e X.env=pure none:=by rfl)
  (h1:(assignEach [tg] X.env).map (·.2)=[assign tg X.env]:=by rfl):PS X (.Assign [tg] e pos) (A4 te g):=by
 intro pins s σ H D I h
 refine wpAny_Assign_stores (AM (he pins s σ H _ I h) λv s1 ⟨x,H1,I1,r1,q1⟩=> ?_) hs hw
 rw[h1]
 exact AM (hg pins s1 σ H1 x v _ I1 r1 q1) λ_ s2 q=>q
theorem TJ{i:Nat}{x:Str}{e:Expr}{te:TE}{pos':Pos}(hN:X.N.Nodup)(hi:X.N[i]? =some x)(hx:HU X.env.scope x)(he:PE X e te)(hs:swapsWith e (some (.Name x pos')) pos.line X.env=pure false:=by rfl)(hf:X.fn x=true\/X.env.scope.names.lookup x=some .local:=by first | exact .inl rfl | exact .inr rfl | assumption) :
  PS X (.Assign [.Name x pos'] e pos) (A4 te (AR i)):=by
 intro pins s σ H D I h
 refine wpAny_Assign_Name (AM (he pins s σ H _ I h) λv s1 ⟨y,H1,I1,r1,q1⟩=> ?_) hs
 exact S8 I1 hN hi hx r1 (λs2 I2=>⟨_,H1,I2,q1⟩) hf
def eD(i:Nat)(te:TE)(ti:LU):TS:=λD σ H=>∃ x,σ[i]? =some (some x)/\te σ H λy H1=>ti x y H1 λz H2=>D.nx (σ.set i (some z)) H2
def NZ(f:Int->Int->Int):LU:=λx y H Q=>∃ i j,x=.int i/\y=.int j/\Q (.int (f i j)) H
end
section
variable{X:Cx}{pos:Pos}
def TK(c:TT)(tb:TS):TS:=λD σ H=>∃ W:Nat->St->Hp->Prop,(∃ m,W m σ H)/\∀ m σ H,W m σ H →
 c σ H λb H1=>if b=true then ∃ N:St->Hp->Prop,(∀ σ' H',N σ' H'->∃ m',m'<m/\W m' σ' H')/\tb { D with nx:=N,ct:=N,bk:=D.nx } σ H1 else D.nx σ H1
theorem eE{c:Expr}{body:List Stmt}{tc:TT}{tb:TS}(hp:PassesOwn (model X.prog X.w) X.A X.env X.xe)(hc:PT X c tc)(hb:PSs X body tb):PS X (.While c body [] pos) (TK tc tb):=by
 intro pins s σ H D I h
 obtain⟨W,⟨m0,w0⟩,turn⟩:=h
 refine wpAny_While (codeAny_whileLoop (λn s'=>∃ σ' H',Inv X pins σ' H' s'/\W n σ' H') ?_ m0 ⟨σ,H,I,w0⟩)
 rintro n s1 ⟨σ1,H1,I1,w1⟩
 refine wpAny_passesOwn hp (AM (hc pins s1 σ1 H1 _ I1 (turn n σ1 H1 w1)) λb s2 ⟨H2,I2,q2⟩=> ?_)
 cases b with
 | true =>
  obtain⟨N,hN,q2⟩:=q2
  rw[if_pos rfl]
  refine wpAny_passesOwn hp (AM (hb pins s2 σ1 H2 _ I2 q2) λf s3 q3=> ?_)
  cases f with
  | next =>
   obtain⟨σ3,H3,I3,n3⟩:=q3
   obtain⟨m',hm,w3⟩:=hN σ3 H3 n3
   exact⟨m',hm,σ3,H3,I3,w3⟩
  | cont =>
   obtain⟨σ3,H3,I3,n3⟩:=q3
   obtain⟨m',hm,w3⟩:=hN σ3 H3 n3
   exact⟨m',hm,σ3,H3,I3,w3⟩
  | brk=>exact q3
  | ret v=>exact q3
 | false =>
  rw[if_neg Bool.false_ne_true]
  exact wpAny_execs_nil ⟨σ1,H2,I2,q2⟩
end
structure It where
 go:Nat->Hp->Prop
 yld:Nat->Hp->V->Hp->Prop
 stop:Nat->Hp->Prop
def FpOk(X:Cx)(pins:List (Addr × Obj))(H:Hp)(b:Addr):Prop :=
 H b=none/\b≠X.env.locals/\b∉X.fs/\(b∈X.ex\/X.s₀.heap.objs.size<=b)/\(∀ x c,X.env.cells.lookup x=some c->c≠b)/\∀ p∈X.pn++pins,p.1≠b
theorem Inv.fpOk{X:Cx}{pins:List (Addr × Obj)}{σ:St}{H H':Hp}{s:Shared}{b:Addr}(I:Inv X pins σ H s)(hb:s.heap.objs.size<=b)(hn:H' b=none):FpOk X pins H' b:=by
 refine⟨hn,Nat.ne_of_gt (Nat.lt_of_lt_of_le I.lt hb),I.nofs hb,.inr (Nat.le_trans I.sz hb),λx c e z=> ?_,λp hp z=> ?_⟩
 ·obtain⟨v,q⟩:=I.cell x c e
  exact absurd (Nat.lt_of_lt_of_le q.lt (by rw[z];exact hb)) (Nat.lt_irrefl _)
 ·exact absurd (Nat.lt_of_lt_of_le (Heap.lt_size (I.pin p hp).1) (by rw[z];exact hb)) (Nat.lt_irrefl _)
structure HZ(P:Program)(w:World)(K:W.Frag)(tg:Expr)(J:It)(fp:List Addr)(it:Addr)(tn:Nat->Heap->Prop):Prop where
 mem:it∈fp
 obj:∀ i h,tn i h->∀ b∈fp,∃ o,h.get? b=some o/\∀ v,o.data≠.cell v
 keep:∀ i h h',tn i h->(∀ b∈fp,∀ o,h.get? b=some o->h'.get? b=some o)->tn i h'
 item:∀ (X:Cx),X.prog=P->X.w=w->X.K=K->X.calm=true->∀ (i:Nat) (pins:List (Addr × Obj)) (s:Shared) (σ:St) (H:Hp) (E:Value->Shared->Prop),Inv X pins σ H s->(∀ b∈fp,FpOk X pins H b)->tn i s.heap->J.go i H →
  wpAny (model P w) X.A (pyNext (.ref it)) (λr s1=>∃ u,r=some u ∧
   wpAny (model P w) X.A (letOwnedTupleGo tg (.ref it) u) (λ_ s2=>∃ x H',Inv X pins σ H' s2/\RelV x u/\J.yld i H x H'/\tn (i+1) s2.heap/\∀ b∈fp,H' b=none) E s1) E s
 done:∀ (X:Cx),X.prog=P->X.w=w->X.K=K->X.calm=true->∀ (i:Nat) (pins:List (Addr × Obj)) (s:Shared) (σ:St) (H:Hp) (E:Value->Shared->Prop),Inv X pins σ H s->(∀ b∈fp,FpOk X pins H b)->tn i s.heap->J.stop i H →
  wpAny (model P w) X.A (pyNext (.ref it)) (λr s1=>r=none/\Inv X pins σ H s1) E s
 self:∀ (A:Around) (i:Nat) (s:Shared) (Q:Value->Shared->Prop) (E:Value->Shared->Prop),tn i s.heap->Q (.ref it) s->wpAny (model P w) A (pyIter (.ref it)) Q E s
abbrev TI:=St->Hp->(It->Hp->Prop)->Prop
def TL(X:Cx)(pins:List (Addr × Obj))(σ:St)(tg:Expr)(R:It->Hp->Prop)(itv:Value)(s2:Shared):Prop :=
 ∃ (it:Addr) (fp:List Addr) (tn:Nat->Heap->Prop) (J:It) (H':Hp),itv=.ref it/\Inv X pins σ H' s2/\HZ X.prog X.w X.K tg J fp it tn/\tn 0 s2.heap/\(∀ b∈fp,FpOk X pins H' b)/\R J H'
def PI(X:Cx)(tg iter:Expr)(wi:TI):Prop :=
 ∀ (pins:List (Addr × Obj)) (s:Shared) (σ:St) (H:Hp) (R:It->Hp->Prop),Inv X pins σ H s->wi σ H R →
  wpAny (model X.prog X.w) X.A (eval iter X.env) (λv s1=>wpAny (model X.prog X.w) X.A (pyIter v) (TL X pins σ tg R) X.xe s1) X.xe s
theorem LW{M:Model}{A:Around}{E:Value->Shared->Prop}{s:Shared}{tg:Expr}{it:Addr}{u:Value}{o:Obj}{n:String}{vs:Array Value}{Q:Unit->Shared->Prop}(ho:s.heap.get? it=some o)(hc:o.cls=.type n)(hd:o.data=.fields vs)
    (hn:["enumerate","zip","dict_itemiterator","dict_reverseitemiterator","odict_iterator","itertools.zip_longest","itertools.pairwise"].contains n=false) (hQ:Q () s):wpAny M A (letOwnedTupleGo tg (.ref it) u) Q E s:=by
  unfold letOwnedTupleGo
  cases tg<;>first
    | exact wpAny_pure hQ
    | (cases u<;>first
        | exact wpAny_pure hQ
        | (refine wpAny_bind (wpAny_load ho ?_)
           rw[hc,hd]
           show wpAny M A (if(["enumerate","zip","dict_itemiterator","dict_reverseitemiterator","odict_iterator","itertools.zip_longest","itertools.pairwise"].contains n && vs[0]? == some (rawInt _))=true then _ else _) Q E s
           rw[if_neg (by intro h;rw[hn,Bool.false_and]at h;cases h)]
           exact wpAny_pure hQ))
def FI(K:W.Frag)(a:Addr):It :=
 ⟨λi H=>∃ xs x,SqL K H a xs/\xs[i]? =some x,λi H x H'=>H'=H/\∀ xs,SqL K H a xs->xs[i]? =some x,λi H=>∃ xs,SqL K H a xs/\xs.length<=i⟩
def GB(K:W.Frag)(a:Addr):It :=
 ⟨λi H=>∃ xs x,SqT K H a xs/\xs[i]? =some x,λi H x H'=>H'=H/\∀ xs,SqT K H a xs->xs[i]? =some x,λi H=>∃ xs,SqT K H a xs/\xs.length<=i⟩
def DS(lo:Int)(n:Nat):It:=⟨λi _=>i<n,λi H x H'=>H'=H/\x=.int (lo+i),λi _=>n<=i⟩
theorem eF{P:Program}{w:World}{K:W.Frag}{tg:Expr}(a it:Addr):HZ P w K tg (FI K a) [it] it (λi h=>h.IsListIter it a i) where
 mem:=by simp
 obj:=λi h st b hb=>by
  have e:b=it:=by simpa using hb
  subst e
  obtain⟨o,e,c,d⟩:=st
  exact⟨o,e,λv z=>by rw[d]at z;cases z⟩
 keep:=λi h h' st k=>st.at λo e=>k it (by simp) o e
 item:=by
  intro X hP hw hK hc i pins s σ H E I hf st hg
  subst hP hw hK
  obtain⟨xs,x,hq,hx⟩:=hg
  obtain⟨its,rv,p,hz⟩:=I.list hq
  obtain⟨u,hu,ru⟩:=rv.get hx
  obtain⟨f0,f1,f2,f3,f4,f5⟩:=hf it (by simp)
  refine wpAny_pyNext_list_item st p.isList (x:=u) (by simpa using hu) λh' st' sb=> ?_
  have I1:Inv X pins σ H { s with heap:=h' }:=I.turned (t':=s.toks) (λb o hb e=>(sb.2 b hb).trans e) f0 f1 f3 f4 f5
  obtain⟨o,e,c,d⟩:=id st'
  exact⟨u,rfl,LW (s:={ s with heap:=h' }) e c d (by decide) ⟨x,H,I1,ru,⟨rfl,λys hy=>by rw[I.list_inj hy hq];exact hx⟩,st',λb hb=>(hf b hb).1⟩⟩
 done:=by
  intro X hP hw hK hc i pins s σ H E I hf st hg
  subst hP hw hK
  obtain⟨xs,hq,hx⟩:=hg
  obtain⟨its,rv,p,hz⟩:=I.list hq
  obtain⟨f0,f1,f2,f3,f4,f5⟩:=hf it (by simp)
  have hl:=rv.length
  exact wpAny_pyNext_list_end (I.ok.hd hc) st p.isList (by simp;omega) λh' eb=>⟨rfl,I.turned (t':=s.toks) (λb o hb e=>eb b o hb e) f0 f1 f3 f4 f5⟩
 self:=λ_ _ _ _ _ st h=>wpAny_pyIter_listiter st h
theorem eG{P:Program}{w:World}{K:W.Frag}{tg:Expr}(a it:Addr):HZ P w K tg (GB K a) [it] it (λi h=>h.IsTupleIter it a i) where
 mem:=by simp
 obj:=λi h st b hb=>by
  have e:b=it:=by simpa using hb
  subst e
  obtain⟨o,e,c,d⟩:=st
  exact⟨o,e,λv z=>by rw[d]at z;cases z⟩
 keep:=λi h h' st k=>st.at λo e=>k it (by simp) o e
 item:=by
  intro X hP hw hK hc i pins s σ H E I hf st hg
  subst hP hw hK
  obtain⟨xs,x,hq,hx⟩:=hg
  obtain⟨its,rv,p,hz⟩:=I.tuple hq
  obtain⟨u,hu,ru⟩:=rv.get hx
  obtain⟨f0,f1,f2,f3,f4,f5⟩:=hf it (by simp)
  refine wpAny_pyNext_tuple_item st (show s.heap.IsTuple a its.toArray from p) (x:=u) (by simpa using hu) λh' st' sb=> ?_
  have I1:Inv X pins σ H { s with heap:=h' }:=I.turned (t':=s.toks) (λb o hb e=>(sb.2 b hb).trans e) f0 f1 f3 f4 f5
  obtain⟨o,e,c,d⟩:=id st'
  exact⟨u,rfl,LW (s:={ s with heap:=h' }) e c d (by decide) ⟨x,H,I1,ru,⟨rfl,λys hy=>by rw[I.tuple_inj hy hq];exact hx⟩,st',λb hb=>(hf b hb).1⟩⟩
 done:=by
  intro X hP hw hK hc i pins s σ H E I hf st hg
  subst hP hw hK
  obtain⟨xs,hq,hx⟩:=hg
  obtain⟨its,rv,p,hz⟩:=I.tuple hq
  obtain⟨f0,f1,f2,f3,f4,f5⟩:=hf it (by simp)
  have hl:=rv.length
  exact wpAny_pyNext_tuple_end (I.ok.hd hc) st (show s.heap.IsTuple a its.toArray from p) (by simp;omega) λh' eb=>⟨rfl,I.turned (t':=s.toks) (λb o hb e=>eb b o hb e) f0 f1 f3 f4 f5⟩
 self:=λ_ _ _ _ _ st h=>wpAny_pyIter_tupleiter st h
theorem eI{P:Program}{w:World}{K:PySem.W.Frag}{tg:Expr}(it:Addr)(lo:Int)(n:Nat):HZ P w K tg (DS lo n) [it] it (λi h=>IsRangeIter h it (lo+(i:Nat) * 1) ((n:Int) - (i:Nat)) 1) where
 mem:=by simp
 obj:=λi h st b hb=>by
  have e:b=it:=by simpa using hb
  subst e
  exact⟨_,st,λv z=>by
   have z':Data.fields _=Data.cell v:=z
   cases z'⟩
 keep:=λi h h' st k=>k it (by simp) _ st
 item:=by
  intro X hP hw hK hc i pins s σ H E I hf st hg
  subst hP hw hK
  obtain⟨f0,f1,f2,f3,f4,f5⟩:=hf it (by simp)
  have W:=Walks.range (prog:=X.prog) (w:=X.w) (I.ok.hd hc) it lo 1 n
  refine W.item i s _ _ hg st λv h' tk hv st' kk=> ?_
  obtain⟨t,rfl⟩:=hv
  have I1:Inv X pins σ H { s with heap:=h',toks:=tk }:=I.turned (λb o hb e=>kk b o (by simpa using hb) e) f0 f1 f3 f4 f5
  refine⟨_,rfl,LW (s:={ s with heap:=h',toks:=tk }) (n:="range_iterator") st' rfl rfl (by decide) ⟨.int (lo+i),H,I1,⟨t,?_⟩,⟨rfl,rfl⟩,st',λb hb=>(hf b hb).1⟩⟩
  rw[Int.mul_one]
 done:=by
  intro X hP hw hK hc i pins s σ H E I hf st hg
  subst hP hw hK
  obtain⟨f0,f1,f2,f3,f4,f5⟩:=hf it (by simp)
  exact wpAny_pyNext_range_end (I.ok.hd hc) st (by have:n<=i:=hg;omega) λh' eb=>⟨rfl,I.turned (t':=s.toks) (λb o hb e=>eb b o hb e) f0 f1 f3 f4 f5⟩
 self:=λ_ _ _ _ _ st h=>wpAny_pyIter_rangeiter st h
end L2
namespace L2
section
variable{X:Cx}{tg:Expr}
theorem eJ{pins:List (Addr × Obj)}{σ:St}{H:Hp}{s:Shared}{R:It->Hp->Prop}{E:Value->Shared->Prop}{lo hi:Int}{t u v:Tok}{tk:Nat}(I:Inv X pins σ H s)(h1: -(2 ^ 62)<=lo)(h2:lo<2 ^ 62)(h3: -(2 ^ 62)<=hi)(h4:hi<2 ^ 62)
  (q:R (DS lo (hi - lo).toNat) H):wpAny (model X.prog X.w) X.A (pyIter (.ref s.heap.objs.size)) (TL X pins σ tg R) E { s with heap:=s.heap.push { cls:=.type "range",data:=.fields #[.int lo t,.int hi u,.int 1 v] },toks:=tk }:=by
 refine wpAny_pyIter_range (IsRange.new ..) (small_one h1 h2 h3 h4) ?_
 have I1:Inv X pins σ H { s with heap:=s.heap.push { cls:=.type "range",data:=.fields #[.int lo t,.int hi u,.int 1 v] },toks:=tk }:=I.kept λb o e=>Heap.get?_push_of_some _ e
 refine⟨(s.heap.push { cls:=.type "range",data:=.fields #[.int lo t,.int hi u,.int 1 v] }).objs.size,[(s.heap.push { cls:=.type "range",data:=.fields #[.int lo t,.int hi u,.int 1 v] }).objs.size],_,_,H,rfl,
  I1.kept (t':=tk) λb o e=>Heap.get?_push_of_some _ e,eI _ lo (hi - lo).toNat,?_,λb hb=> ?_,q⟩
 ·have e1:lo+((0:Nat):Int) * 1=lo:=by simp
  have e2:(((hi - lo).toNat:Nat):Int) - ((0:Nat):Int)=Builtin.Range.rangeSize lo hi 1:=by rw[rangeSize_one];split<;>omega
  show IsRangeIter _ _ (lo+((0:Nat):Int) * 1) ((((hi - lo).toNat:Nat):Int) - ((0:Nat):Int)) 1
  rw[e1,e2]
  exact Heap.get?_push_size _ rfl
 ·have e:b=(s.heap.push { cls:=.type "range",data:=.fields #[.int lo t,.int hi u,.int 1 v] }).objs.size:=by simpa using hb
  subst e
  exact I1.fpOk (Nat.le_refl _) (I1.hok.fresh (Nat.le_refl _))
def DI(ta:TA):TI:=λσ H R=>ta σ H λvs H1=>∃ j:Int,vs=[.int j]/\ -(2 ^ 62)<=j/\j<2 ^ 62/\R (DS 0 j.toNat) H1
def TM(ta:TA):TI:=λσ H R=>ta σ H λvs H1=>∃ i j:Int,vs=[.int i,.int j]/\(-(2 ^ 62)<=i/\i<2 ^ 62/\ -(2 ^ 62)<=j/\j<2 ^ 62)/\R (DS i (j - i).toNat) H1
theorem D3{a:Expr}{ta:TA}{p pos:Pos}(hg:Gl X "range")(hm:X.mg "range"=none)(ha:PA X [a] ta)(hs:starEach [a] X.env=[(false,eval a X.env)]:=by rfl):PI X tg (.Call (.Name "range" p) [a] [] pos) (DI ta):=by
 intro pins s σ H R I h
 refine Call_ (LO I hg hm boot_range (PyProof.Rows.callWith_type1 (AM (ha pos pins s σ H _ I h) λus s1 ⟨vs,H1,I1,r1,q1⟩=> ?_) hs rfl))
 obtain⟨j,e,q1,q2,q⟩:=q1
 subst e
 cases r1 with
 | cons r rr =>
  cases rr
  obtain⟨t,rfl⟩:=r
  exact call_range_1 (eJ I1 (by omega) (by omega) q1 q2 (by simpa using q))
def CD(wi:TI)(g:TG)(tb:TS):TS:=λD σ H=>wi σ H λJ H1=>∃ W:Nat->Nat->St->Hp->Prop,(∃ m,W 0 m σ H1)/\∀ i m σ H,W i m σ H →
 (J.stop i H/\D.nx σ H)\/(J.go i H/\∃ N:St->Hp->Prop,(∀ σ' H',N σ' H'->∃ m',m'<m/\W (i+1) m' σ' H')/\∀ x H',J.yld i H x H'->g x σ H' λσ2 H2=>tb { D with nx:=N,ct:=N,bk:=D.nx } σ2 H2)
def KG(fp:List Addr)(h:Heap):List (Addr × Obj):=fp.filterMap λb=>(h.get? b).map λo=>(b,o)
theorem LX{fp:List Addr}{h:Heap}{b:Addr}{o:Obj}(hb:b∈fp)(e:h.get? b=some o):(b,o)∈KG fp h:=List.mem_filterMap.mpr ⟨b,hb,by rw[e];rfl⟩
theorem eK{fp:List Addr}{h:Heap}{p:Addr × Obj}(hp:p∈KG fp h):p.1∈fp/\h.get? p.1=some p.2:=by
 obtain⟨b,hb,e⟩:=List.mem_filterMap.mp hp
 cases q:h.get? b with
 | none=>rw[q]at e;cases e
 | some o =>
  rw[q]at e
  have e':(b,o)=p:=Option.some.inj e
  subst e'
  exact⟨hb,q⟩
theorem Inv.pinned{pins:List (Addr × Obj)}{σ:St}{H:Hp}{s:Shared}{fp:List Addr}(I:Inv X pins σ H s)(hf:∀ b∈fp,FpOk X pins H b)(ho:∀ b∈fp,∃ o,s.heap.get? b=some o/\∀ v,o.data≠.cell v):Inv X (pins++KG fp s.heap) σ H s :=
 I.pins_of λp hp=>(List.mem_append.mp hp).elim (λz=>I.pin p (List.mem_append_right _ z)) λz=>by
  obtain⟨hb,e⟩:=eK z
  obtain⟨f0,f1,f2,_⟩:=hf p.1 hb
  obtain⟨o,e',d⟩:=ho p.1 hb
  rw[e]at e';cases e'
  exact⟨e,f0,f1,f2,d⟩
theorem Inv.unpinned{pins pl:List (Addr × Obj)}{σ:St}{H:Hp}{s:Shared}(I:Inv X (pins++pl) σ H s):Inv X pins σ H s:=I.pins_of λp hp=>I.pin p (List.mem_append_right _ (List.mem_append_left _ hp))
theorem CQ{iter:Expr}{body:List Stmt}{wi:TI}{g:TG}{tb:TS}{pos:Pos}(hp:PassesOwn (model X.prog X.w) X.A X.env X.xe)(hc:X.calm=true)(hi:PI X tg iter wi)(hg:PG X tg g)(hb:PSs X body tb)
  (hs:∀ x,foldedSetIterable iter X.env x=pure x:=by intro _;rfl):PS X (.For tg iter body [] pos) (CD wi g tb):=by
 intro pins s σ H D I h
 refine wpAny_For (AM (hi pins s σ H _ I h) λv s1 h1=>AM h1 λitv s2 h2=> ?_) hs
 obtain⟨it,fp,tn,J,H2,e,I2,T,st2,f2,W,⟨m0,w0⟩,turn⟩:=h2
 subst e
 have stat:∀ {H':Hp},(∀ b∈fp,H' b=none)->∀ b∈fp,FpOk X pins H' b:=λhn b hb=>⟨hn b hb,(f2 b hb).2⟩
 refine codeAny_forLoop_any (λn s'=>∃ i σ' H',Inv X pins σ' H' s'/\tn i s'.heap/\(∀ b∈fp,H' b=none)/\W i n σ' H') ?_ m0 ⟨0,σ,H2,I2,st2,λb hb=>(f2 b hb).1,w0⟩
 rintro n s3 ⟨i,σ3,H3,I3,st3,fr3,w3⟩
 rcases turn i n σ3 H3 w3 with⟨stop,qn⟩ | ⟨go,N,hN,step⟩
 ·refine wpAny_passesOwn hp (AM (T.done X rfl rfl rfl hc i pins s3 σ3 H3 X.xe I3 (stat fr3) st3 stop) λr s4 ⟨hr,I4⟩=> ?_)
  subst hr
  exact wpAny_execs_nil ⟨σ3,H3,I4,qn⟩
 ·refine wpAny_passesOwn hp (AM (T.item X rfl rfl rfl hc i pins s3 σ3 H3 X.xe I3 (stat fr3) st3 go) λr s4 ⟨u,hr,h4⟩=> ?_)
  subst hr
  refine wpAny_passesOwn hp (AM h4 λ_ s5 ⟨x,H5,I5,r5,y5,st5,fr5⟩=> ?_)
  have I5':=I5.pinned (stat fr5) (T.obj _ _ st5)
  refine wpAny_passesOwn hp (AM (hg _ s5 σ3 H5 x u _ I5' r5 (step x H5 y5)) λ_ s6 ⟨σ6,H6,I6,q6⟩=> ?_)
  refine wpAny_passesOwn hp (AM (hb _ s6 σ6 H6 _ I6 q6) λf s7 q7=> ?_)
  have again:∀ {σ7:St} {H7:Hp},Inv X (pins++KG fp s5.heap) σ7 H7 s7->N σ7 H7->∃ m,m<n/\∃ i σ' H',Inv X pins σ' H' s7/\tn i s7.heap/\(∀ b∈fp,H' b=none)/\W i m σ' H':=λ{σ7 H7} I7 n7=>by
   obtain⟨m',hm,w7⟩:=hN σ7 H7 n7
   refine⟨m',hm,i+1,σ7,H7,I7.unpinned,T.keep _ _ _ st5 λb hb o e=>(I7.pin (b,o) (List.mem_append_right _ (List.mem_append_right _ (LX hb e)))).1,λb hb=> ?_,w7⟩
   obtain⟨o,e,d⟩:=T.obj _ _ st5 b hb
   exact(I7.pin (b,o) (List.mem_append_right _ (List.mem_append_right _ (LX hb e)))).2.1
  cases f with
  | next=>obtain⟨σ7,H7,I7,n7⟩:=q7;exact again I7 n7
  | cont=>obtain⟨σ7,H7,I7,n7⟩:=q7;exact again I7 n7
  | brk=>obtain⟨σ7,H7,I7,q7⟩:=q7;exact⟨σ7,H7,I7.unpinned,q7⟩
  | ret v=>obtain⟨x7,σ7,H7,I7,r7,q7⟩:=q7;exact⟨x7,σ7,H7,I7.unpinned,r7,q7⟩
end
theorem eM{K:PySem.W.Frag}{a:Addr}{xs:List V}{g:TG}{tb:TS}{D:Ends}{σ:St}{H:Hp}(Pv:Nat->St->Hp->Prop)(h0:Pv 0 σ H)(hl:∀ i σ H,i<=xs.length->Pv i σ H->SqL K H a xs)
  (hs:∀ i x σ H,xs[i]? =some x->Pv i σ H->g x σ H λσ2 H2=>tb { D with nx:=Pv (i+1),ct:=Pv (i+1),bk:=D.nx } σ2 H2) (hd:∀ σ H,Pv xs.length σ H->D.nx σ H) :
  ∃ W:Nat->Nat->St->Hp->Prop,(∃ m,W 0 m σ H)/\∀ i m σ H,W i m σ H →
   ((FI K a).stop i H/\D.nx σ H)\/((FI K a).go i H/\∃ N:St->Hp->Prop,(∀ σ' H',N σ' H'->∃ m',m'<m/\W (i+1) m' σ' H')/\∀ x H',(FI K a).yld i H x H'->g x σ H' λσ2 H2=>tb { D with nx:=N,ct:=N,bk:=D.nx } σ2 H2):=by
 refine⟨λi m σ H=>m=xs.length - i/\i<=xs.length/\Pv i σ H,⟨xs.length,by simp,Nat.zero_le _,h0⟩,?_⟩
 rintro i m σ H ⟨rfl,hi,p⟩
 have q:=hl i σ H hi p
 by_cases hlt:i<xs.length
 ·refine .inr ⟨⟨xs,xs[i],q,by simp[hlt]⟩,Pv (i+1),λσ' H' p'=>⟨xs.length - (i+1),by omega,rfl,hlt,p'⟩,λx H' y=> ?_⟩
  obtain⟨e,y⟩:=y
  subst e
  exact hs i x σ _ (y xs q) p
 ·have e:i=xs.length:=by omega
  subst e
  exact .inl ⟨⟨xs,q,Nat.le_refl _⟩,hd σ H p⟩
theorem eO{K:PySem.W.Frag}{a:Addr}{xs:List V}{g:TG}{tb:TS}{D:Ends}{σ:St}{H:Hp}(Pv:Nat->St->Hp->Prop)(h0:Pv 0 σ H)(hl:∀ i σ H,i<=xs.length->Pv i σ H->SqT K H a xs)
  (hs:∀ i x σ H,xs[i]? =some x->Pv i σ H->g x σ H λσ2 H2=>tb { D with nx:=Pv (i+1),ct:=Pv (i+1),bk:=D.nx } σ2 H2) (hd:∀ σ H,Pv xs.length σ H->D.nx σ H) :
  ∃ W:Nat->Nat->St->Hp->Prop,(∃ m,W 0 m σ H)/\∀ i m σ H,W i m σ H →
   ((GB K a).stop i H/\D.nx σ H)\/((GB K a).go i H/\∃ N:St->Hp->Prop,(∀ σ' H',N σ' H'->∃ m',m'<m/\W (i+1) m' σ' H')/\∀ x H',(GB K a).yld i H x H'->g x σ H' λσ2 H2=>tb { D with nx:=N,ct:=N,bk:=D.nx } σ2 H2):=by
 refine⟨λi m σ H=>m=xs.length - i/\i<=xs.length/\Pv i σ H,⟨xs.length,by simp,Nat.zero_le _,h0⟩,?_⟩
 rintro i m σ H ⟨rfl,hi,p⟩
 have q:=hl i σ H hi p
 by_cases hlt:i<xs.length
 ·refine .inr ⟨⟨xs,xs[i],q,by simp[hlt]⟩,Pv (i+1),λσ' H' p'=>⟨xs.length - (i+1),by omega,rfl,hlt,p'⟩,λx H' y=> ?_⟩
  obtain⟨e,y⟩:=y
  subst e
  exact hs i x σ _ (y xs q) p
 ·have e:i=xs.length:=by omega
  subst e
  exact .inl ⟨⟨xs,q,Nat.le_refl _⟩,hd σ H p⟩
theorem eP{lo:Int}{n:Nat}{g:TG}{tb:TS}{D:Ends}{σ:St}{H:Hp}(Pv:Nat->St->Hp->Prop)(h0:Pv 0 σ H)
  (hs:∀ i σ H,i<n->Pv i σ H->g (.int (lo+i)) σ H λσ2 H2=>tb { D with nx:=Pv (i+1),ct:=Pv (i+1),bk:=D.nx } σ2 H2) (hd:∀ σ H,Pv n σ H->D.nx σ H) :
  ∃ W:Nat->Nat->St->Hp->Prop,(∃ m,W 0 m σ H)/\∀ i m σ H,W i m σ H →
   ((DS lo n).stop i H/\D.nx σ H)\/((DS lo n).go i H/\∃ N:St->Hp->Prop,(∀ σ' H',N σ' H'->∃ m',m'<m/\W (i+1) m' σ' H')/\∀ x H',(DS lo n).yld i H x H'->g x σ H' λσ2 H2=>tb { D with nx:=N,ct:=N,bk:=D.nx } σ2 H2):=by
 refine⟨λi m σ H=>m=n - i/\i<=n/\Pv i σ H,⟨n,by simp,Nat.zero_le _,h0⟩,?_⟩
 rintro i m σ H ⟨rfl,hi,p⟩
 by_cases hlt:i<n
 ·refine .inr ⟨hlt,Pv (i+1),λσ' H' p'=>⟨n - (i+1),by omega,rfl,hlt,p'⟩,λx H' y=> ?_⟩
  obtain⟨e,y⟩:=y
  subst e y
  exact hs i σ _ hlt p
 ·have e:i=n:=by omega
  subst e
  exact .inl ⟨Nat.le_refl _,hd σ H p⟩
end L2
namespace L2
abbrev R2:=V->V->Hp->VK->Prop
def OpR(X:Cx)(f:Value->Value->Sem Value)(r:R2):Prop :=
 ∀ (pins:List (Addr × Obj)) (s:Shared) (σ:St) (H:Hp) (x y:V) (v u:Value) (Q:VK),Inv X pins σ H s->RelV x v->RelV y u->r x y H Q →
  wpAny (model X.prog X.w) X.A (f v u) (EP X pins σ Q) X.xe s
def CallR(X:Cx)(f:Value)(r:List V->Hp->VK->Prop):Prop :=
 ∀ (pins:List (Addr × Obj)) (s:Shared) (σ:St) (H:Hp) (xs:List V) (us:List Value) (Q:VK),Inv X pins σ H s->Vals xs us->r xs H Q →
  wpAny (model X.prog X.w) X.A (call f us) (EP X pins σ Q) X.xe s
def eQ(X:Cx)(r:V->Hp->(Bool->Hp->Prop)->Prop):Prop :=
 ∀ (pins:List (Addr × Obj)) (s:Shared) (σ:St) (H:Hp) (x:V) (v:Value) (Q:Bool->Hp->Prop),Inv X pins σ H s->RelV x v->r x H Q →
  wpAny (model X.prog X.w) X.A (truthy v) (TP X pins σ Q) X.xe s
def AI(r:R2)(ta tb:TE):TE:=λσ H Q=>ta σ H λx H1=>tb σ H1 λy H2=>r x y H2 Q
def eR(r:V->Hp->VK->Prop)(ta:TE):TE:=λσ H Q=>ta σ H λx H1=>r x H1 Q
def rI(C:Int->Int->Prop)(g:Int->Int->V):R2:=λx y H Q=>∃ i j,x=.int i/\y=.int j/\C i j/\Q (g i j) H
def EY(g:Int->Int->V):R2:=λx y H Q=>∃ i j,x=.int i/\y=.int j/\Q (g i j) H
def rU(g:Int->V):V->Hp->VK->Prop:=λx H Q=>∃ i,x=.int i/\Q (g i) H
section
variable{X:Cx}{a b c:Expr}{ta tb tc:TE}{pos:Pos}
theorem N0(ha:PE X a ta)(hb:PE X b tb){pins:List (Addr × Obj)}{s:Shared}{σ:St}{H:Hp}{R:V->V->Hp->Prop}(I:Inv X pins σ H s)
  (h:ta σ H λx H1=>tb σ H1 λy H2=>R x y H2) {Q:Value->Shared->Prop} {f:Value->Value->Sem Value}
  (hf:∀ v u s2 x y H2,Inv X pins σ H2 s2->RelV x v->RelV y u->R x y H2->wpAny (model X.prog X.w) X.A (f v u) Q X.xe s2) :
  wpAny (model X.prog X.w) X.A (eval a X.env) (λv s₁=>wpAny (model X.prog X.w) X.A (eval b X.env) (λu s₂=>wpAny (model X.prog X.w) X.A (f v u) Q X.xe s₂) X.xe s₁) X.xe s:=by
 refine AM (ha pins s σ H _ I h) λv s1 ⟨x,H1,I1,r1,q1⟩=> ?_
 refine AM (hb pins s1 σ H1 _ I1 q1) λu s2 ⟨y,H2,I2,r2,q2⟩=> ?_
 exact hf v u s2 x y H2 I2 r1 r2 q2
theorem BL{op:Operator}{r:R2}(ho:OpR X (binaryOp op) r)(ha:PE X a ta)(hb:PE X b tb):PE X (.BinOp a op b pos) (AI r ta tb):=by
 intro pins s σ H Q I h
 exact wpAny_BinOp (N0 ha hb I h λv u s2 x y H2 I2 rx ry q=>ho pins s2 σ H2 x y v u Q I2 rx ry q)
theorem LY{f:Value->Value->Sem Value}{C:Int->Int->Prop}{g:Int->Int->Int}
  (rule:∀ (i j:Int) (t u:Tok) (s:Shared) (Q:Value->Shared->Prop) (E:Value->Shared->Prop),C i j->Q (.int (g i j) s.toks) { s with toks:=s.toks+1 }->wpAny (model X.prog X.w) X.A (f (.int i t) (.int j u)) Q E s) :
  OpR X f (rI C λi j=>.int (g i j)):=by
 intro pins s σ H x y v u Q I rx ry h
 obtain⟨i,j,rfl,rfl,hc,q⟩:=h
 obtain⟨t,rfl⟩:=rx
 obtain⟨t',rfl⟩:=ry
 exact rule i j t t' s _ _ hc ⟨.int (g i j),H,I.tok _,⟨_,rfl⟩,q⟩
theorem TN{f:Value->Value->Sem Value}{g:Int->Int->Int}
  (rule:∀ (i j:Int) (t u:Tok) (s:Shared) (Q:Value->Shared->Prop) (E:Value->Shared->Prop),Q (.int (g i j) s.toks) { s with toks:=s.toks+1 }->wpAny (model X.prog X.w) X.A (f (.int i t) (.int j u)) Q E s) :
  OpR X f (EY λi j=>.int (g i j)):=by
 intro pins s σ H x y v u Q I rx ry h
 obtain⟨i,j,rfl,rfl,q⟩:=h
 obtain⟨t,rfl⟩:=rx
 obtain⟨t',rfl⟩:=ry
 exact rule i j t t' s _ _ ⟨.int (g i j),H,I.tok _,⟨_,rfl⟩,q⟩
theorem N1{f:Value->Value->Sem Value}{g:Int->Int->Bool}
  (rule:∀ (i j:Int) (t u:Tok) (s:Shared) (Q:Value->Shared->Prop) (E:Value->Shared->Prop),Q (.bool (g i j)) s->wpAny (model X.prog X.w) X.A (f (.int i t) (.int j u)) Q E s) :
  OpR X f (EY λi j=>.bl (g i j)):=by
 intro pins s σ H x y v u Q I rx ry h
 obtain⟨i,j,rfl,rfl,q⟩:=h
 obtain⟨t,rfl⟩:=rx
 obtain⟨t',rfl⟩:=ry
 exact rule i j t t' s _ _ ⟨.bl (g i j),H,I,rfl,q⟩
def TQ(i j:Int):Prop:=0<j/\j<1073741824
def N2(i j:Int):Prop:=0<=j/\j<=1000000/\i.natAbs<2 ^ 64
def CMul(i j:Int):Prop:=(-(2 ^ 64)<i/\i<2 ^ 64)\/(-(2 ^ 64)<j/\j<2 ^ 64)
theorem CMul.ok{i j:Int}(h:CMul i j):IntMulOk i j:=by
 rcases h with⟨h1,h2⟩ | ⟨h1,h2⟩
 ·exact .of_left (intBits_le_64 h1 h2)
 ·exact .of_right (intBits_le_64 h1 h2)
theorem eU:OpR X (binaryOp .Add) (EY λi j=>.int (i+j)):=TN λ_ _ _ _ _ _ _ q=>add_int q
theorem LZ:OpR X (binaryOp .Sub) (EY λi j=>.int (i - j)):=TN λ_ _ _ _ _ _ _ q=>sub_int q
theorem eV:OpR X (binaryOp .Mult) (rI CMul λi j=>.int (i * j)):=LY λ_ _ _ _ _ _ _ hc q=>mul_int q hc.ok
theorem eX:OpR X (binaryOp .FloorDiv) (rI TQ λi j=>.int (i / j)):=LY λi j _ _ _ _ _ hc q=>by
 have h1:(0:Int)<j:=hc.1
 have h2:j<1073741824:=hc.2
 exact floordiv_int (by omega) (by rw[Int.fdiv_eq_ediv_of_nonneg i (by omega)];exact q) (.inl (PyProof.noPylong_small (by omega)))
theorem EF:OpR X (binaryOp .Mod) (rI (λ_ j=>0<j) λi j=>.int (i % j)):=LY λi j _ _ _ _ _ hc q=>by
 have h1:(0:Int)<j:=hc
 exact mod_int' (by omega) (by rw[Int.fmod_eq_emod_of_nonneg i (by omega)];exact q)
theorem eY:OpR X (binaryOp .Pow) (rI N2 λi j=>.int (i ^ j.toNat)):=LY λ_ _ _ _ _ _ _ hc q=>pow_int_small hc.1 hc.2.1 hc.2.2 q
end
def CZ:V->V->Bool
 | .non,.non=>true | .non,.int _=>true | .int _,.non=>true | .non,.bl _=>true | .bl _,.non=>true | .non,.str _=>true | .str _,.non=>true
 | .int _,.int _=>true | .bl _,.bl _=>true | .str _,.str _=>true | .byt _,.byt _=>true
 | .int _,.str _=>true | .str _,.int _=>true | .bl _,.str _=>true | .str _,.bl _=>true
 | _,_=>false
def eZ:R2:=λx y H Q=>CZ x y=true/\Q (.bl (decide (x=y))) H
def fB:R2:=λx y H Q=>CZ x y=true/\Q (.bl (!decide (x=y))) H
theorem TR{i j:Int}:decide (V.int i=V.int j)=(i == j):=by
 rw[Bool.eq_iff_iff]
 simp
theorem TU{i j:Bool}:decide (V.bl i=V.bl j)=(i == j):=by
 rw[Bool.eq_iff_iff]
 simp
theorem TV{i j:Str}:decide (V.str i=V.str j)=(i == j):=by
 rw[Bool.eq_iff_iff]
 simp
theorem TW{i j:Array UInt8}:decide (V.byt i=V.byt j)=(i.toList == j.toList):=by
 rw[Bool.eq_iff_iff]
 cases i
 cases j
 simp
section
variable{X:Cx}{a b c:Expr}{ta tb tc:TE}{pos:Pos}
theorem BW{pins:List (Addr × Obj)}{σ:St}{H:Hp}{s:Shared}{Q:VK}{k k':Bool}(I:Inv X pins σ H s)(q:Q (.bl k) H)(e:k=k'):EP X pins σ Q (.bool k') s:=by
 subst e
 exact⟨.bl k,H,I,rfl,q⟩
theorem fC:OpR X (compareOp .Eq) eZ:=by
 intro pins s σ H x y v u Q I rx ry h
 obtain⟨hs,q⟩:=h
 cases x with
 | non =>
  cases rx
  cases y with
  | non=>cases ry;exact PySem.EqNone.eq_none_none (BW I q (by simp))
  | bl j=>cases ry;exact PySem.EqNone.eq_none_bool (BW I q (by simp))
  | int j=>obtain⟨t',rfl⟩:=ry;exact PySem.EqNone.eq_none_int (BW I q (by simp))
  | str j=>obtain⟨t',rfl⟩:=ry;exact PySem.EqNone.eq_none_str (BW I q (by simp))
  | _=>exact absurd (show false=true from hs) Bool.false_ne_true
 | bl i =>
  cases rx
  cases y with
  | non=>cases ry;exact PySem.EqNone.eq_bool_none (BW I q (by simp))
  | bl j=>cases ry;exact eq_bool (BW I q TU)
  | str j=>obtain⟨t',rfl⟩:=ry;exact PySem.EqMixed.eq_bool_str (BW I q (by simp))
  | _=>exact absurd (show false=true from hs) Bool.false_ne_true
 | int i =>
  obtain⟨t,rfl⟩:=rx
  cases y with
  | non=>cases ry;exact PySem.EqNone.eq_int_none (BW I q (by simp))
  | int j=>obtain⟨t',rfl⟩:=ry;exact eq_int (BW I q TR)
  | str j=>obtain⟨t',rfl⟩:=ry;exact PySem.EqMixed.eq_int_str (BW I q (by simp))
  | _=>exact absurd (show false=true from hs) Bool.false_ne_true
 | str i =>
  obtain⟨t,rfl⟩:=rx
  cases y with
  | non=>cases ry;exact PySem.EqNone.eq_str_none (BW I q (by simp))
  | bl j=>cases ry;exact PySem.EqMixed.eq_str_bool (BW I q (by simp))
  | int j=>obtain⟨t',rfl⟩:=ry;exact PySem.EqMixed.eq_str_int (BW I q (by simp))
  | str j=>obtain⟨t',rfl⟩:=ry;exact eq_str (BW I q TV)
  | _=>exact absurd (show false=true from hs) Bool.false_ne_true
 | byt i =>
  obtain⟨t,rfl⟩:=rx
  cases y with
  | byt j=>obtain⟨t',rfl⟩:=ry;exact W.eq_bytes (BW I q TW)
  | _=>exact absurd (show false=true from hs) Bool.false_ne_true
 | _=>cases y<;>exact absurd (show false=true from hs) Bool.false_ne_true
theorem fD:OpR X (compareOp .NotEq) fB:=by
 intro pins s σ H x y v u Q I rx ry h
 obtain⟨hs,q⟩:=h
 cases x with
 | non =>
  cases rx
  cases y with
  | non=>cases ry;exact PySem.EqNone.ne_none_none (BW I q (by simp))
  | bl j=>cases ry;exact PySem.EqNone.ne_none_bool (BW I q (by simp))
  | int j=>obtain⟨t',rfl⟩:=ry;exact PySem.EqNone.ne_none_int (BW I q (by simp))
  | str j=>obtain⟨t',rfl⟩:=ry;exact PySem.EqNone.ne_none_str (BW I q (by simp))
  | _=>exact absurd (show false=true from hs) Bool.false_ne_true
 | bl i =>
  cases rx
  cases y with
  | non=>cases ry;exact PySem.EqNone.ne_bool_none (BW I q (by simp))
  | bl j=>cases ry;exact ne_bool (BW I q (congrArg not TU))
  | str j=>obtain⟨t',rfl⟩:=ry;exact PySem.EqMixed.ne_bool_str (BW I q (by simp))
  | _=>exact absurd (show false=true from hs) Bool.false_ne_true
 | int i =>
  obtain⟨t,rfl⟩:=rx
  cases y with
  | non=>cases ry;exact PySem.EqNone.ne_int_none (BW I q (by simp))
  | int j=>obtain⟨t',rfl⟩:=ry;exact ne_int (BW I q (congrArg not TR))
  | str j=>obtain⟨t',rfl⟩:=ry;exact PySem.EqMixed.ne_int_str (BW I q (by simp))
  | _=>exact absurd (show false=true from hs) Bool.false_ne_true
 | str i =>
  obtain⟨t,rfl⟩:=rx
  cases y with
  | non=>cases ry;exact PySem.EqNone.ne_str_none (BW I q (by simp))
  | bl j=>cases ry;exact PySem.EqMixed.ne_str_bool (BW I q (by simp))
  | int j=>obtain⟨t',rfl⟩:=ry;exact PySem.EqMixed.ne_str_int (BW I q (by simp))
  | str j=>obtain⟨t',rfl⟩:=ry;exact ne_str (BW I q (congrArg not TV))
  | _=>exact absurd (show false=true from hs) Bool.false_ne_true
 | byt i =>
  obtain⟨t,rfl⟩:=rx
  cases y with
  | byt j=>obtain⟨t',rfl⟩:=ry;exact W.ne_bytes (BW I q (congrArg not TW))
  | _=>exact absurd (show false=true from hs) Bool.false_ne_true
 | _=>cases y<;>exact absurd (show false=true from hs) Bool.false_ne_true
theorem fE:OpR X (compareOp .Lt) (EY λi j=>.bl (decide (i<j))):=N1 λ_ _ _ _ _ _ _ q=>lt_int q
theorem fF:OpR X (compareOp .LtE) (EY λi j=>.bl (decide (i<=j))):=N1 λ_ _ _ _ _ _ _ q=>le_int q
theorem fG:OpR X (compareOp .Gt) (EY λi j=>.bl (decide (j<i))):=N1 λ_ _ _ _ _ _ _ q=>gt_int q
theorem TY:OpR X (compareOp .Is) (λx y H Q=>y=.non/\Q (.bl (decide (x=.non))) H):=by
 intro pins s σ H x y v u Q I rx ry h
 obtain⟨rfl,q⟩:=h
 cases ry
 refine is_none_gen (BW I q ?_)
 cases x<;>first
  | (cases rx;rfl)
  | (obtain⟨t,rfl⟩:=rx;rfl)
theorem OpR.or{f:Value->Value->Sem Value}{r r':R2}(h:OpR X f r)(h':OpR X f r'):OpR X f (λx y H Q=>r x y H Q\/r' x y H Q):=by
 intro pins s σ H x y v u Q I rx ry q
 rcases q with q | q
 ·exact h pins s σ H x y v u Q I rx ry q
 ·exact h' pins s σ H x y v u Q I rx ry q
theorem B7(b:Expr){op:CmpOp}(h:op≠.In:=by decide)(h2:op≠.NotIn:=by decide):behindInMarks op b=false:=by
 have e1:(op == CmpOp.In)=false:=by cases op<;>first | rfl | exact absurd rfl h
 have e2:(op == CmpOp.NotIn)=false:=by cases op<;>first | rfl | exact absurd rfl h2
 cases b<;>simp[behindInMarks,e1,e2]
theorem GC{op:CmpOp}{r:R2}(ho:OpR X (compareOp op) r)(ha:PE X a ta)(hb:PE X b tb)(hm:behindInMarks op b=false):PE X (.Compare a [op] [b] pos) (AI r ta tb):=by
 intro pins s σ H Q I h
 exact wpAny_Compare1 (N0 ha hb I h λv u s2 x y H2 I2 rx ry q=>ho pins s2 σ H2 x y v u Q I2 rx ry q) hm
def CF(t:TE):TT:=λσ H Q=>t σ H λx H'=>∃ k,x=.bl k/\Q k H'
theorem C0{op:CmpOp}{r:R2}(ho:OpR X (compareOp op) r)(ha:PE X a ta)(hb:PE X b tb)(hm:behindInMarks op b=false):PT X (.Compare a [op] [b] pos) (CF (AI r ta tb)):=by
 intro pins s σ H Q I h
 refine wpAny_isTrue_Compare1 (AM (ha pins s σ H _ I h) λv s1 ⟨x,H1,I1,r1,q1⟩=>AM (hb pins s1 σ H1 _ I1 q1) λu s2 ⟨y,H2,I2,r2,q2⟩ =>
  AM (ho pins s2 σ H2 x y v u _ I2 r1 r2 q2) λc s3 ⟨z,H3,I3,r3,k,e,q3⟩=> ?_) hm
 subst e
 cases r3
 exact wpAny_truthy_bool ⟨H3,I3,q3⟩
def IA(r r':R2)(ta tb tc:TE):TE:=λσ H Q=>ta σ H λx H1=>tb σ H1 λy H2=>r x y H2 λz H3=>∃ k,z=.bl k ∧
 (if k=true then tc σ H3 λw' H4=>r' y w' H4 Q else Q (.bl false) H3)
theorem MA{op op':CmpOp}{r r':R2}(ho:OpR X (compareOp op) r)(ho':OpR X (compareOp op') r')(ha:PE X a ta)(hb:PE X b tb)(hc:PE X c tc)
  (hm:lastMarks [op,op'] [b,c]=false:=by with_unfolding_all rfl):PT X (.Compare a [op,op'] [b,c] pos) (CF (IA r r' ta tb tc)):=by
 intro pins s σ H Q I h
 refine isTrue_chain (AM (ha pins s σ H _ I h) λv s1 ⟨x,H1,I1,r1,q1⟩=>test_link (AM (hb pins s1 σ H1 _ I1 q1) λu s2 ⟨y,H2,I2,r2,q2⟩ =>
  AM (ho pins s2 σ H2 x y v u _ I2 r1 r2 q2) λd s3 ⟨z,H3,I3,r3,k,e,q3⟩=> ?_)) hm
 subst e
 cases r3
 refine wpAny_truthy_bool ?_
 cases k with
 | false =>
  obtain⟨k',e',q'⟩:=q3
  cases e'
  exact ite_ff ⟨H3,I3,q'⟩
 | true =>
  refine ite_tt (test_last (AM (hc pins s3 σ H3 _ I3 q3) λw' s4 ⟨z',H4,I4,r4,q4⟩=>AM (ho' pins s4 σ H4 y z' u w' _ I4 r2 r4 q4) λd' s5 ⟨z2,H5,I5,r5,k2,e2,q5⟩=> ?_))
  subst e2
  cases r5
  exact wpAny_truthy_bool ⟨H5,I5,q5⟩
def EG(K:W.Frag)(x:V)(H:Hp)(k:Bool):Prop :=
 match x with
 | .non=>k=false
 | .bl b=>k=b
 | .int i=>k=(i != 0)
 | .str y=>y.length<=sizeLine/\k=((y.length:Int) != 0)
 | .byt y=>y.size<=sizeLine/\k=((y.size:Int) != 0)
 | .ref p=>(∃ xs,SqL K H p xs/\k= !xs.isEmpty)\/(∃ xs,SqT K H p xs/\k= !xs.isEmpty)\/∃ kvs,H p=some (.dK kvs)/\k= !kvs.isEmpty
 | _=>False
theorem fH{κ :Type}{kvs:List (κ × V)}{vs:List (κ × Value)}(r:KV kvs vs):(!vs.isEmpty)= !kvs.isEmpty:=by
 cases r<;>rfl
theorem TZ{xs:List V}{its:List Value}(r:Vals xs its):(!its.toArray.isEmpty)= !xs.isEmpty:=by
 cases r<;>simp
theorem IB:(sizeLine:Nat)<2 ^ 63:=by rw[sizeLine_eq];decide
theorem T2:eQ X (λx H Q=>∃ k,EG X.K x H k/\Q k H):=by
 intro pins s σ H x v Q I rx h
 obtain⟨k,e,q⟩:=h
 have hl:=IB
 have hs:sizeLine=16777216:=sizeLine_eq
 cases x with
 | non =>
  cases rx
  have e':k=false:=e
  subst e'
  exact truthy_none ⟨H,I,q⟩
 | bl b =>
  cases rx
  have e':k=b:=e
  subst e'
  exact wpAny_truthy_bool ⟨H,I,q⟩
 | int i =>
  obtain⟨t,rfl⟩:=rx
  have e':k=(i != 0):=e
  subst e'
  exact PySem.P.truthy_int ⟨H,I,q⟩
 | str y =>
  obtain⟨t,rfl⟩:=rx
  obtain⟨hy,e'⟩:y.length<=sizeLine/\k=((y.length:Int) != 0):=e
  subst e'
  exact PySem.P.truthy_str (by omega) ⟨H,I.tok _,q⟩
 | byt y =>
  obtain⟨t,rfl⟩:=rx
  obtain⟨hy,e'⟩:y.size<=sizeLine/\k=((y.size:Int) != 0):=e
  subst e'
  exact W.truthy_bytes (by omega) ⟨H,I.tok _,q⟩
 | ref p =>
  cases rx
  have e':(∃ xs,SqL X.K H p xs/\k= !xs.isEmpty)\/(∃ xs,SqT X.K H p xs/\k= !xs.isEmpty)\/∃ kvs,H p=some (.dK kvs)/\k= !kvs.isEmpty:=e
  rcases e' with⟨xs,hx,e'⟩ | ⟨xs,hx,e'⟩ | ⟨kvs,hx,e'⟩
  ·subst e'
   obtain⟨its,r,pl,hz⟩:=I.list hx
   have hlen:=r.length
   exact wpAny_truthy_list pl.isList (by simp only[List.size_toArray];omega) ⟨H,I.tok _,by rw[TZ r];exact q⟩
  ·subst e'
   obtain⟨its,r,pl,hz⟩:=I.tuple hx
   have hlen:=r.length
   exact truthy_tuple pl (by simp only[List.size_toArray];omega) ⟨H,I.tok _,by rw[TZ r];exact q⟩
  ·subst e'
   obtain⟨hz,hS,vs,r,m⟩:kvs.length<=sizeLine/\(p == sysModules)=false/\∃ vs,KV kvs vs/\s.heap.DictOf (C4 X.prog X.w) p vs:=I.hok p _ hx
   have hlen:kvs.length=vs.length:=Paired.length r
   exact wpAny_truthy_dict hS m (by omega) ⟨H,I.tok _,by rw[fH r];exact q⟩
 | _=>exact(show False from e).elim
theorem DT(ha:PE X a ta)(he:∀ whole,isTrue a X.env whole=(do let v ← whole;standAt a.pos;holding [v] (truthy v))) :
  PT X a (λσ H Q=>ta σ H λx H'=>∃ k,EG X.K x H' k/\Q k H'):=by
 intro pins s σ H Q I h
 exact isTrue_plain (AM (ha pins s σ H _ I h) λv s1 ⟨x,H1,I1,r1,q1⟩=>T2 pins s1 σ H1 x v Q I1 r1 q1) (he _)
theorem fI:OpR X (binaryOp .Add) (λx y H Q=>∃ i j,x=.str i/\y=.str j/\i.length+j.length<=sizeLine/\Q (.str (i++j)) H):=by
 intro pins s σ H x y v u Q I rx ry h
 obtain⟨i,j,rfl,rfl,hz,q⟩:=h
 obtain⟨t,rfl⟩:=rx
 obtain⟨t',rfl⟩:=ry
 exact add_str (λt' tk=>⟨.str (i++j),H,I.tok _,⟨_,rfl⟩,q⟩) hz
theorem FJ{x:V}{us:List Value}(r:Vals [x] us):∃ u,us=[u]/\RelV x u:=by
 cases r with
 | cons r1 r2=>cases r2;exact⟨_,rfl,r1⟩
theorem T3{x y:V}{us:List Value}(r:Vals [x,y] us):∃ u w',us=[u,w']/\RelV x u/\RelV y w':=by
 cases r with
 | cons r1 r2 =>
  cases r2 with
  | cons r3 r4=>cases r4;exact⟨_,_,rfl,r1,r3⟩
theorem fJ(hc:X.calm=true):CallR X (.builtin "max") (λxs H Q=>∃ i j,xs=[.int i,.int j]/\Q (.int (if j > i then j else i)) H):=by
 intro pins s σ H xs us Q I r h
 obtain⟨i,j,rfl,q⟩:=h
 obtain⟨u,w',rfl,⟨t,rfl⟩,⟨t',rfl⟩⟩:=T3 r
 refine max_two_ints (I.ok.hd hc) λh' tk k=>⟨_,H,I.kept k,?_,q⟩
 by_cases hj:j > i
 ·rw[if_pos hj,if_pos hj];exact⟨_,rfl⟩
 ·rw[if_neg hj,if_neg hj];exact⟨_,rfl⟩
theorem fK(hc:X.calm=true):CallR X (.builtin "min") (λxs H Q=>∃ i j,xs=[.int i,.int j]/\Q (.int (if j<i then j else i)) H):=by
 intro pins s σ H xs us Q I r h
 obtain⟨i,j,rfl,q⟩:=h
 obtain⟨u,w',rfl,⟨t,rfl⟩,⟨t',rfl⟩⟩:=T3 r
 refine min_two_ints (I.ok.hd hc) λh' tk k=>⟨_,H,I.kept k,?_,q⟩
 by_cases hj:j<i
 ·rw[if_pos hj,if_pos hj];exact⟨_,rfl⟩
 ·rw[if_neg hj,if_neg hj];exact⟨_,rfl⟩
theorem T4:CallR X (.type "int") (λxs H Q=>(∃ i,xs=[.int i]/\Q (.int i) H)\/∃ k,xs=[.bl k]/\Q (.int (if k then 1 else 0)) H):=by
 intro pins s σ H xs us Q I r h
 rcases h with⟨i,rfl,q⟩ | ⟨k,rfl,q⟩
 ·obtain⟨u,rfl,t,rfl⟩:=FJ r
  exact call_int_int ⟨.int i,H,I,⟨_,rfl⟩,q⟩
 ·obtain⟨u,rfl,r1⟩:=FJ r
  cases r1
  exact call_int_bool ⟨.int (if k then 1 else 0),H,I.tok _,⟨_,rfl⟩,q⟩
def N3(K:W.Frag)(x:V)(H:Hp)(n:Nat):Prop :=
 match x with
 | .str y=>y.length<=sizeLine/\n=y.length
 | .byt y=>y.size<=sizeLine/\n=y.size
 | .ref p=>(∃ xs,SqL K H p xs/\n=xs.length)\/∃ xs,SqT K H p xs/\n=xs.length
 | _=>False
theorem fM:CallR X (.builtin "len") (λxs H Q=>∃ x n,xs=[x]/\N3 X.K x H n/\Q (.int n) H):=by
 intro pins s σ H xs us Q I r h
 obtain⟨x,n,rfl,e,q⟩:=h
 obtain⟨u,rfl,rx⟩:=FJ r
 have hl:=IB
 have hs:sizeLine=16777216:=sizeLine_eq
 cases x with
 | str y =>
  obtain⟨t,rfl⟩:=rx
  obtain⟨hy,e'⟩:y.length<=sizeLine/\n=y.length:=e
  subst e'
  exact len_str (by omega) ⟨.int _,H,I.tok _,⟨_,rfl⟩,q⟩
 | byt y =>
  obtain⟨t,rfl⟩:=rx
  obtain⟨hy,e'⟩:y.size<=sizeLine/\n=y.size:=e
  subst e'
  exact W.len_bytes (by omega) ⟨.int _,H,I.tok _,⟨_,rfl⟩,q⟩
 | ref p =>
  cases rx
  have e':(∃ xs,SqL X.K H p xs/\n=xs.length)\/∃ xs,SqT X.K H p xs/\n=xs.length:=e
  rcases e' with⟨xs,hx,e'⟩ | ⟨xs,hx,e'⟩
  ·subst e'
   obtain⟨its,r',pl,hz⟩:=I.list hx
   have hlen:=r'.length
   exact Calls.call_len_list pl.isList (by simp only[List.size_toArray];omega) ⟨.int xs.length,H,I.tok _,⟨_,by simp only[List.size_toArray];rw[hlen]⟩,q⟩
  ·subst e'
   obtain⟨its,r',pl,hz⟩:=I.tuple hx
   have hlen:=r'.length
   exact len_tuple pl (by simp only[List.size_toArray];omega) ⟨.int xs.length,H,I.tok _,⟨_,by simp only[List.size_toArray];rw[hlen]⟩,q⟩
 | _=>exact(show False from e).elim
end
end L2
namespace L2
structure ObjM(h:Heap)(x dx C:Addr)(mA:Str->Option Value):Prop where
 obj:h.get? x=some (W.instObj C dx)
 ns:h.Ns1 dx mA
 ne:dx≠x
theorem fP{h:Heap}{dx:Addr}{mA:Str->Option Value}(n:h.Ns1 dx mA):∃ od,h.get? dx=some od/\∀ name,W.lookIn name od=some (mA name):=by
 obtain⟨o,es,ep,ho,hd,hk,_,hm⟩:=n
 refine⟨o,ho,λname=> ?_⟩
 have e:=hm name
 unfold nsFind findBy at e
 rw[<-Array.find?_toList]at e
 unfold W.lookIn
 rw[hd]
 dsimp only
 split
 ·rename_i y q
  rw[q]at e
  exact congrArg some e
 ·rename_i q
  rw[q]at e
  have a:es.toList.any (·.refKey)=false:=by
   rw[List.any_eq_false]
   intro y hy
   obtain⟨z,t,hkey⟩:=hk y (Array.mem_toList_iff.mp hy)
   simp[DictEntry.refKey,hkey]
  have a':¬ es.toList.any (·.refKey)=true:=by rw[a];exact Bool.false_ne_true
  rw[if_neg a']
  exact congrArg some e
theorem ObjM.look{h:Heap}{x dx C:Addr}{mA:Str->Option Value}(I:ObjM h x dx C mA):∃ od,W.InstAt h x (W.instObj C dx) C (some od)/\∀ name,W.lookIn name od=some (mA name) :=
 let ⟨od,ho,hl⟩:=fP I.ns
 ⟨od,⟨I.obj,rfl,rfl,ho⟩,hl⟩
section
variable{prog:Program}{w:World}{A:Around}{E:Value->Shared->Prop}{s:Shared}{K:W.Frag}{x dx C f:Addr}{mA:Str->Option Value}{name:Str}{v:Value}
theorem fQ{expr:Bool}{Q:Value->Shared->Prop}(X:K.In s.heap)(I:ObjM s.heap x dx C mA)(hg:W.plainGet K C name=true)(hh:W.hasDictIn K C=true)
  (ha:W.findIn K (.ref C) name=some none) (hv:mA name=some v) (hv':W.handedIn v=true) (h:Q v { s with toks:=s.toks+1 }) :
  wpAny (model prog w) A (getAttr (.ref x) name expr) Q E s:=by
 obtain⟨od,J,hl⟩:=I.look
 exact W.get_value X J (W.plainGet_of hg).1 (W.findObj_own hh ha rfl (by rw[hl,hv])) hv' h
theorem fR{pl:Sem Bool}{Q:Value × List Value->Shared->Prop}(X:K.In s.heap)(I:ObjM s.heap x dx C mA)(hg:W.plainGet K C name=true)
  (hf:W.findIn K (.ref C) name=some (some (.ref f))) (ht:W.isFn K (.ref f)=true) (hv:mA name=none) (h:Q (.ref f,[.ref x]) s) :
  wpAny (model prog w) A (getMethod (.ref x) name pl) Q E s:=by
 obtain⟨od,J,hl⟩:=I.look
 exact W.method_fn X J (W.plainGet_of hg).1 (W.plainGet_of hg).2 hf (beq_iff_eq.mp ht) (by show(W.lookIn name od).map (·.isSome)=some false;rw[hl,hv];rfl) h
theorem fS{ns:List Str}{Q:Unit->Shared->Prop}(X:K.In s.heap)(I:ObjM s.heap x dx C mA)
  (hs:W.findIn K (.ref C) "__setattr__"=some (some (.builtin "object.__setattr__"))) (hp:W.plainOver K C=true) (ht:W.takerIn K C name=some none) (hh:W.hasDictIn K C=true)
  (hw:PySem.Within mA ns) (hsz:ns.length<=sizeLine)
  (h:∀ h',ObjM h' x dx C (λy=>if y=name then some v else mA y)->Heap.SameBut dx s.heap h'->Q () { s with heap:=h',toks:=s.toks+2 }) :
  wpAny (model prog w) A (setAttr (.ref x) name v) Q E s:=by
 obtain⟨od,J,hl⟩:=I.look
 refine W.set_plain X J hs (W.osa_open (s:={ s with toks:=s.toks+1 }) (r:=none) X J hp ht λb=> ?_)
 obtain⟨cd,hc,hd'⟩:=W.any_some hh
 have hx:s.heap.get? x=some ⟨.ref C,some dx,.plain,#[]⟩:=I.obj
 refine wpAny_bind (wpAny_pure (wpAny_bind (wpAny_bind (wpAny_loadPart hx (wpAny_bind (W.Looks.here (s:={ s with toks:=s.toks+1 }) (W.looks_clsIn X hc) ?_))))))
 rw[hd']
 refine wpAny_pure (a:=some dx) (wpAny_bind (wpAny_pure (wpAny_bind ?_)))
 refine wpAny_nsSet1 (s:={ s with toks:=s.toks+1 }) I.ns λh' hn2 hs2=> ?_
 obtain⟨oD,esD,epD,hoD,hdD,hcD⟩:=hn2.count (PySem.Within.cons name v hw)
 refine wpAny_bind (wpAny_lookBehind hoD (by rw[hdD];exact pastItsLine_dict (Nat.le_trans hcD (by rw[List.length_cons];omega))) ?_)
 exact wpAny_pure (h _ ⟨(hs2.2 _ (Ne.symm I.ne)).trans I.obj,hn2,I.ne⟩ hs2)
theorem fT{R:Result->Shared->Prop}{vs:List Value}{kw:List (Str × Value)}(X:K.In s.heap)(hm:W.makesIn K C=true)
  (hi:W.findIn K (.ref C) "__init__"=some (some (.ref f))) (hf:W.typeIn K (.ref f)=some (.type "function"))
  (h:codeAny (model prog w) (A.under (.builtin "type.__call__" ⟨.ref C::vs,kw⟩)) (.call (.ref f) ⟨.ref (s.heap.objs.size+1)::vs,kw⟩) (W.InitBack (s.heap.objs.size+1) R)
   { s with heap:=(s.heap.push W.emptyDict).push (W.instObj C s.heap.objs.size) }) :
  codeAny (model prog w) A (.call (.ref C) ⟨vs,kw⟩) R s:=by
 obtain⟨hh,g,d,t,os⟩:=s
 exact W.make_core (W.makes_of X hm) (W.looks_findIn X hi) (λself=>W.bind_fn X self hf) (.inl rfl) h
theorem fU{R:Result->Shared->Prop}(X:K.In s.heap)(hm:W.makesIn K C=true)
  (hi:W.findIn K (.ref C) "__init__"=some (some (.builtin "object.__init__")))
  (hb:∀ self,W.Looks (model prog w) s.heap (bindSpecial (.builtin "object.__init__") self) (.builtin "object.__init__",[self]))
  (h:codeAny (model prog w) (A.under (.builtin "type.__call__" ⟨[.ref C],[]⟩)) (.call (.builtin "object.__init__") ⟨[.ref (s.heap.objs.size+1)],[]⟩) (W.InitBack (s.heap.objs.size+1) R)
   { s with heap:=(s.heap.push W.emptyDict).push (W.instObj C s.heap.objs.size) }) :
  codeAny (model prog w) A (.call (.ref C) ⟨[],[]⟩) R s:=by
 obtain⟨hh,g,d,t,os⟩:=s
 exact W.make_core (W.makes_of X hm) (W.looks_findIn X hi) hb (.inr ⟨rfl,rfl⟩) h
end
def A0(f:Str)(v:V):List (Str × V)->List (Str × V)
 | []=>[(f,v)]
 | (g,x)::r=>if g=f then(g,v)::r else(g,x)::A0 f v r
theorem T5(f g:Str)(v:V):∀ fs:List (Str × V),(A0 f v fs).lookup g=if g=f then some v else fs.lookup g
 | []=>by
  show List.lookup g [(f,v)]=_
  by_cases h:g=f
  ·have hb:(g == f)=true:=beq_iff_eq.mpr h
   simp only[List.lookup,hb,if_pos h]
  ·have hb:(g == f)=false:=beq_eq_false_iff_ne.mpr h
   simp only[List.lookup,hb,if_neg h]
 | (k,x)::r=>by
  have ih:=T5 f g v r
  rw[show A0 f v ((k,x)::r)=(if k=f then(k,v)::r else(k,x)::A0 f v r)from rfl]
  by_cases hk:k=f
  ·rw[if_pos hk]
   by_cases h:g=k
   ·have hb:(g == k)=true:=beq_iff_eq.mpr h
    simp only[List.lookup,hb,if_pos (h.trans hk)]
   ·have hb:(g == k)=false:=beq_eq_false_iff_ne.mpr h
    simp only[List.lookup,hb,if_neg (λe:g=f=>h (e.trans hk.symm))]
  ·rw[if_neg hk]
   by_cases h:g=k
   ·have hb:(g == k)=true:=beq_iff_eq.mpr h
    simp only[List.lookup,hb,if_neg (λe:g=f=>hk (h.symm.trans e))]
   ·have hb:(g == k)=false:=beq_eq_false_iff_ne.mpr h
    simp only[List.lookup,hb]
    exact ih
theorem N4(f:Str)(v:V):∀ fs:List (Str × V),f∈(A0 f v fs).map (·.1)/\∀ g,g∈fs.map (·.1)->g∈(A0 f v fs).map (·.1)
 | []=>⟨by simp[A0],λg h=>by simp at h⟩
 | (k,x)::r=>by
  obtain⟨i1,i2⟩:=N4 f v r
  rw[show A0 f v ((k,x)::r)=(if k=f then(k,v)::r else(k,x)::A0 f v r)from rfl]
  by_cases hk:k=f
  ·rw[if_pos hk]
   subst hk
   exact⟨by simp,λg h=>by simpa using h⟩
  ·rw[if_neg hk]
   refine⟨?_,λg h=> ?_⟩
   ·rw[List.map_cons]
    exact List.mem_cons_of_mem _ i1
   ·rw[List.map_cons]at h ⊢
    rcases List.mem_cons.mp h with e | e
    ·exact List.mem_cons.mpr (.inl e)
    ·exact List.mem_cons_of_mem _ (i2 g e)
theorem MB(f:Str)(v:V):∀ fs:List (Str × V),(A0 f v fs).length<=fs.length+1
 | []=>by simp[A0]
 | (k,x)::r=>by
  have ih:=MB f v r
  rw[show A0 f v ((k,x)::r)=(if k=f then(k,v)::r else(k,x)::A0 f v r)from rfl]
  by_cases hk:k=f
  ·rw[if_pos hk,List.length_cons,List.length_cons];omega
  ·rw[if_neg hk,List.length_cons,List.length_cons];omega
theorem RelO.some_of{v:V}{o:Option Value}(r:RelO (some v) o):∃ u,o=some u/\RelV v u:=by
 cases o with
 | none=>exact(show False from r).elim
 | some u=>exact⟨u,rfl,r⟩
theorem RelO.none_of{o:Option Value}(r:RelO none o):o=none:=by
 cases o with
 | none=>rfl
 | some u=>exact(show False from r).elim
theorem fV{v:V}{u:Value}(r:RelV v u):W.handedIn u=true:=by
 cases v with
 | non=>cases (show u=Value.none from r);rfl
 | bl b=>cases (show u=Value.bool b from r);rfl
 | int i=>obtain⟨t,e⟩:=(show ∃ t,u=Value.int i t from r);cases e;rfl
 | str x=>obtain⟨t,e⟩:=(show ∃ t,u=Value.str x t from r);cases e;rfl
 | byt b=>obtain⟨t,e⟩:=(show ∃ t,u=Value.bytes b t from r);cases e;rfl
 | flt b=>obtain⟨t,e⟩:=(show ∃ t,u=Value.float b t from r);cases e;rfl
 | ref a=>cases (show u=Value.ref a from r);rfl
 | ty n=>cases (show u=Value.type n from r);rfl
section
variable{P:Program}{w:World}{H H':Hp}{h h':Heap}{a C dx:Addr}{fs fs':List (Str × V)}
theorem MC(hok:HOk P w H h)(e:H a=some (.ins C dx fs)):∃ mA,ObjM h a dx C mA/\(∀ f,RelO (fs.lookup f) (mA f))/\PySem.Within mA (fs.map (·.1))/\fs.length<=1000/\H dx=some (.own a):=by
 obtain⟨d,z,ne,ob,mA,n,r,q⟩:=(show ObjOk P w H h a (.ins C dx fs)from hok a _ e)
 exact⟨mA,⟨ob,n,ne⟩,r,q,z,d⟩
end
structure Cls(K:W.Frag)(C:Addr):Prop where
 pg:W.plainGet K C Str.empty=true
 hd:W.hasDictIn K C=true
 po:W.plainOver K C=true
 sa:W.findIn K (.ref C) "__setattr__"=some (some (.builtin "object.__setattr__"))
theorem Cls.get{K:W.Frag}{C:Addr}(c:Cls K C)(f:Str):W.plainGet K C f=true:=c.pg
def NoAttr(K:W.Frag)(C:Addr)(f:Str):Prop:=W.findIn K (.ref C) f=some none
theorem NoAttr.taker{K:W.Frag}{C:Addr}{f:Str}(n:NoAttr K C f):W.takerIn K C f=some none:=by
 unfold W.takerIn
 rw[show W.findIn K (.ref C) f=some none from n]
 rfl
structure Ex(K:W.Frag)(C:Addr)(f:Str)(v:V)(u:Value):Prop where
 at_:W.findIn K (.ref C) f=some (some u)
 rel:RelV v u
 get:W.specialIn K u "__get__"=some none
 cp:W.copiedNames.contains f=false
structure MD(K:W.Frag)(C:Addr)(m:Str)(f:Addr):Prop where
 at_:W.findIn K (.ref C) m=some (some (.ref f))
 fn:W.isFn K (.ref f)=true
 kp:W.keepIn K (.ref f)=true
section
variable{X:Cx}{pins:List (Addr × Obj)}{σ:St}{H:Hp}{s:Shared}{a C dx:Addr}{fs:List (Str × V)}{f:Str}{v:V}{A:Around}{E:Value->Shared->Prop}
theorem T6{b:Bool}{Q:Value->Shared->Prop}(I:Inv X pins σ H s)(e:H a=some (.ins C dx fs))(c:Cls X.K C)(n:NoAttr X.K C f)(l:fs.lookup f=some v)
  (h:∀ u s',Inv X pins σ H s'->RelV v u->Q u s'):wpAny (model X.prog X.w) A (getAttr (.ref a) f b) Q E s:=by
 obtain⟨mA,O,r,_,_,_⟩:=MC I.hok e
 obtain⟨u,hu,ru⟩:=RelO.some_of (v:=v) (o:=mA f) (by rw[<-l];exact r f)
 exact fQ I.kIn O (c.get f) c.hd n hu (fV ru) (h u _ (I.tok _) ru)
theorem T7{m:Str}{g:Addr}{pl:Sem Bool}{Q:Value × List Value->Shared->Prop}(I:Inv X pins σ H s)(e:H a=some (.ins C dx fs))(c:Cls X.K C)(k:MD X.K C m g)(l:fs.lookup m=none)
  (h:Q (.ref g,[.ref a]) s):wpAny (model X.prog X.w) A (getMethod (.ref a) m pl) Q E s:=by
 obtain⟨mA,O,r,_,_,_⟩:=MC I.hok e
 have hn:mA m=none:=RelO.none_of (by rw[<-l];exact r m)
 exact fR I.kIn O (c.get m) k.at_ k.fn hn h
theorem T8{y:V}{u:Value}{Q:Unit->Shared->Prop}(I:Inv X pins σ H s)(e:H a=some (.ins C dx fs))(c:Cls X.K C)(n:NoAttr X.K C f)(hl:fs.length<1000)(ry:RelV y u)
  (h:∀ s',Inv X pins σ (upd H a (.ins C dx (A0 f y fs))) s'->Q () s'):wpAny (model X.prog X.w) A (setAttr (.ref a) f u) Q E s:=by
 obtain⟨mA,O,r,wi,_,ho⟩:=MC I.hok e
 have hz:(fs.map (·.1)).length<=sizeLine:=by rw[List.length_map,sizeLine_eq];omega
 refine fS I.kIn O c.sa c.po n.taker c.hd wi hz λh' O' sb=>h _ ?_
 have hd:∃ o,h'.get? dx=some o:=let ⟨o,_,_,e',_⟩:=O'.ns;⟨o,e'⟩
 refine I.write (x:=a) (e:=dx) (by rw[e];exact True.intro) (.inr ho) (λb q hb z=>(sb.2 b hb).trans z) hd ?_
 refine⟨by rw[AH O.ne];exact ho,?_,O.ne,O'.obj,_,O'.ns,λg=> ?_,λg hg=> ?_⟩
 ·have:=MB f y fs;omega
 ·show RelO ((A0 f y fs).lookup g) (if g=f then some u else mA g)
  rw[T5]
  by_cases q:g=f
  ·rw[if_pos q,if_pos q];exact ry
  ·rw[if_neg q,if_neg q];exact r g
 ·by_cases q:g=f
  ·rw[q];exact(N4 f y fs).1
  ·refine(N4 f y fs).2 g (wi g λz=>hg ?_)
   show(if g=f then some u else mA g)=none
   rw[if_neg q];exact z
theorem Inv.made(I:Inv X pins σ H s):Inv X pins σ (upd (upd H s.heap.objs.size (.own (s.heap.objs.size+1))) (s.heap.objs.size+1) (.ins C s.heap.objs.size []))
  { s with heap:=(s.heap.push W.emptyDict).push (W.instObj C s.heap.objs.size) }:=by
 have e1:(s.heap.push W.emptyDict).get? s.heap.objs.size=some W.emptyDict:=Heap.get?_push_size s.heap rfl
 have e2:((s.heap.push W.emptyDict).push (W.instObj C s.heap.objs.size)).get? (s.heap.objs.size+1)=some (W.instObj C s.heap.objs.size):=by
  have:=Heap.get?_push_size (s.heap.push W.emptyDict) (o:=W.instObj C s.heap.objs.size) rfl
  rwa [Heap.size_push]at this
 have e3:(s.heap.push W.emptyDict).Ns s.heap.objs.size (λ_=>none):=⟨W.emptyDict,#[],_,e1,rfl,(λe he=>absurd he (by simp)),λ_=>rfl⟩
 have I1:=I.laid (a:=s.heap.objs.size) (o:=.own (s.heap.objs.size+1)) (h':=s.heap.push W.emptyDict) (t':=s.toks) (λb u q=>Heap.get?_push_of_some _ q) (Nat.le_refl _) ⟨_,e1⟩
 refine I1.laid (a:=s.heap.objs.size+1) (o:=.ins C s.heap.objs.size []) (t':=s.toks) (λb u q=>Heap.get?_push_of_some _ q) (Nat.le_of_eq (Heap.size_push _ _)) ?_
 have ne:s.heap.objs.size≠s.heap.objs.size+1:=Nat.ne_of_lt (Nat.lt_succ_self _)
 refine⟨by rw[AH ne,AK],Nat.zero_le _,ne,e2,λ_=>none,(Heap.Ns1.of_empty e3).at λo q=>Heap.get?_push_of_some _ q,λ_=>True.intro,λy hy=>absurd rfl hy⟩
theorem fW{prog:Program}{w:World}{env:Env}{e:Expr}{f:Str}{pos:Pos}{s:Shared}{Q:Value->Shared->Prop}(hb:attributeBase e f env (eval e env)=eval e env)
  (h:wpAny (model prog w) A (eval e env) (λo s₁=>wpAny (model prog w) A (getAttr o f true) Q E s₁) E s):wpAny (model prog w) A (eval (.Attribute e f pos) env) Q E s :=
 Attribute_any_ h (by rw[arm_eval_Attribute,hb])
end
def BG(K:W.Frag)(ta:TE)(f:Str):TE:=λσ H Q=>ta σ H λx H1=>∃ a C dx fs v,x=.ref a/\H1 a=some (.ins C dx fs)/\Cls K C/\NoAttr K C f/\fs.lookup f=some v/\Q v H1
def DU(K:W.Frag)(ta tv:TE)(f:Str):TS:=λD σ H=>tv σ H λy H1=>ta σ H1 λx H2=>∃ a C dx fs,x=.ref a/\H2 a=some (.ins C dx fs)/\Cls K C/\NoAttr K C f/\fs.length<1000 ∧
 D.nx σ (upd H2 a (.ins C dx (A0 f y fs)))
def T9(X:Cx)(op:Operator)(rd:V->V->Hp->VK->Prop):Prop :=
 ∀ (pins:List (Addr × Obj)) (s:Shared) (σ:St) (H:Hp) (x y:V) (u v:Value) (Q:VK),Inv X pins σ H s->RelV x u->RelV y v->rd x y H Q->wpAny (model X.prog X.w) X.A (inplaceOp op u v) (EP X pins σ Q) X.xe s
def ME(K:W.Frag)(ta tv:TE)(rd:V->V->Hp->VK->Prop)(f:Str):TS:=λD σ H=>ta σ H λx H1=>∃ a C dx fs v,x=.ref a/\H1 a=some (.ins C dx fs)/\Cls K C/\NoAttr K C f/\fs.lookup f=some v ∧
 tv σ H1 λy H2=>rd v y H2 λz H3=>∃ dx' fs',H3 a=some (.ins C dx' fs')/\fs'.length<1000/\D.nx σ (upd H3 a (.ins C dx' (A0 f z fs')))
section
variable{X:Cx}{o e value:Expr}{f:Str}{pos pos' tpos:Pos}{ta tv:TE}
theorem BM(he:PE X e ta)(hb:attributeBase e f X.env (eval e X.env)=eval e X.env):PE X (.Attribute e f pos) (BG X.K ta f):=by
 intro pins s σ H Q I h
 refine fW hb (AM (he pins s σ H _ I h) λu s1 ⟨x,H1,I1,rx,a,C,dx,fs,v,ex,ea,c,n,l,q⟩=> ?_)
 subst ex
 obtain rfl:u=Value.ref a:=rx
 exact T6 I1 ea c n l λu' s2 I2 ru=>⟨v,H1,I2,ru,q⟩
theorem EH(ha:PE X o ta)(hv:PE X value tv)(hs:swapsWith value (some (.Attribute o f pos')) pos.line X.env=pure false):PS X (.Assign [.Attribute o f pos'] value pos) (DU X.K ta tv f):=by
 intro pins s σ H D I h
 refine plainObj_wpAny_Assign_Attribute (AM (hv pins s σ H _ I h) λu s1 ⟨y,H1,I1,ry,q⟩=>AM (ha pins s1 σ H1 _ I1 q) λov s2 ⟨x,H2,I2,rx,a,C,dx,fs,ex,ea,c,n,l,q2⟩=> ?_) hs
 subst ex
 obtain rfl:ov=Value.ref a:=rx
 exact T8 I2 ea c n l ry λs3 I3=>⟨σ,_,I3,q2⟩
theorem UA{op:Operator}{rd:V->V->Hp->VK->Prop}(ha:PE X o ta)(hv:PE X value tv)(hop:T9 X op rd):PS X (.AugAssign (.Attribute o f tpos) op value pos) (ME X.K ta tv rd f):=by
 intro pins s σ H D I h
 refine wpAny_AugAssign_AttributeAny (AM (ha pins s σ H _ I h) λov s1 ⟨x,H1,I1,rx,a,C,dx,fs,v,ex,ea,c,n,l,q⟩=> ?_)
 subst ex
 obtain rfl:ov=Value.ref a:=rx
 refine T6 I1 ea c n l λu s2 I2 ru=>AM (hv pins s2 σ H1 _ I2 q) λw3 s3 ⟨y,H2,I3,ry,q3⟩=>AM (hop pins s3 σ H2 v y u w3 _ I3 ru ry q3) λw4 s4 ⟨z,H3,I4,rz,dx',fs',ea',l',q4⟩=> ?_
 exact T8 I4 ea' c n l' rz λs5 I5=>⟨σ,_,I5,q4⟩
def KH:V->V->Hp->VK->Prop:=λx y H Q=>∃ i j,x=.int i/\y=.int j/\Q (.int (i+j)) H
theorem UB:T9 X .Add KH:=by
 rintro pins s σ H x y u v Q I rx ry ⟨i,j,rfl,rfl,q⟩
 obtain⟨t,rfl⟩:=(show ∃ t,u=Value.int i t from rx)
 obtain⟨t',rfl⟩:=(show ∃ t',v=Value.int j t' from ry)
 exact PyProof.Rows.iadd_int ⟨.int (i+j),H,I.tok _,⟨_,rfl⟩,q⟩
end
section
variable{X:Cx}{pins:List (Addr × Obj)}{σ:St}{H:Hp}{s:Shared}{A:Around}{E:Value->Shared->Prop}{Q:Value->Shared->Prop}{c:Value}{b:Bool}
inductive DN(K:W.Frag)(H:Hp):V->Value->Prop where
 | non:DN K H .non (.type "NoneType")
 | bl (x:Bool):DN K H (.bl x) (.type "bool")
 | int (i:Int):DN K H (.int i) (.type "int")
 | str (x:Str):DN K H (.str x) (.type "str")
 | flt (x:UInt64):DN K H (.flt x) (.type "float")
 | lst {a:Addr} {xs:List V} (e:H a=some (.lst xs)):DN K H (.ref a) (.type "list")
 | frz {a:Addr} {o:Obj} {xs:List V} (e:H a=some (.frz o (.lst xs))):DN K H (.ref a) (.type "list")
 | tup {a:Addr} {xs:List V} (e:H a=some (.tup xs)):DN K H (.ref a) (.type "tuple")
 | dK {a:Addr} {kvs:List (AS × V)} (e:H a=some (.dK kvs)):DN K H (.ref a) (.type "dict")
 | dT {a:Addr} {kvs:List (List AS × V)} (e:H a=some (.dT kvs)):DN K H (.ref a) (.type "dict")
 | ins {a C dx:Addr} {fs:List (Str × V)} (e:H a=some (.ins C dx fs)) (cl:Cls K C) (ha:W.findIn K (.ref C) "__class__"=some (some (.builtin "object.__class__")))
   (hn:W.specialIn K (.builtin "object.__class__") "__get__"=some (some (.builtin "getset_descriptor.__get__"))) (htk:W.takesIn K (.builtin "object.__class__")=some true)
   (hm:W.mroIn K C (.type "object")=some true):DN K H (.ref a) (.ref C)
end
end L2
namespace L2
structure Room(k:Nat)(A:Around):Prop where
 hd:A.handled=none
 dp:A.depth+3 * k+5<recursionLimit
 un:A.units+16 * k+200<cLine
theorem Room.mono{j k:Nat}{A:Around}(r:Room k A)(h:j<=k):Room j A:=⟨r.hd,by have:=r.dp;omega,by have:=r.un;omega⟩
theorem Room.deeper{k:Nat}{A:Around}(r:Room (k+1) A)(env:Env):Room k (A.deeper env) :=
 ⟨r.hd,by have:=r.dp;show A.depth+1+3 * k+5<_;omega,by have:=r.un;show A.units+3+16 * k+200<_;omega⟩
theorem Room.in1{k:Nat}{A:Around}(r:Room (k+1) A):Room k A.in1 :=
 ⟨r.hd,by have:=r.dp;show A.depth+3 * k+5<_;omega,by have:=r.un;show A.units+1+16 * k+200<_;omega⟩
theorem fX{A:Around}{C:Addr}{us:List Value}{kw:List (Str × Value)}:(A.under (.builtin "type.__call__" ⟨.ref C::us,kw⟩)).depth=A.depth+1:=by
 first | rfl | simp[Around.under,Code.weight,Code.isCreation,Code.isGuard,Code.isCaller,Code.frames,Code.isFrame,guardIds]
theorem fY{A:Around}{C:Addr}{us:List Value}{kw:List (Str × Value)}:(A.under (.builtin "type.__call__" ⟨.ref C::us,kw⟩)).units=A.units+1:=by
 first | rfl | simp[Around.under,Code.cUnits,Code.frames,Code.isFrame]
theorem Room.make{k:Nat}{A:Around}(r:Room (k+1) A)(C:Addr)(us:List Value)(kw:List (Str × Value)):Room k (A.under (.builtin "type.__call__" ⟨.ref C::us,kw⟩)) :=
 ⟨r.hd,by have:=r.dp;rw[fX];omega,by have:=r.un;rw[fY];omega⟩
theorem Room.depth{k:Nat}{A:Around}(r:Room k A):A.depth<recursionLimit:=by have:=r.dp;omega
theorem Room.units{k:Nat}{A:Around}(r:Room k A):A.units+64<cLine:=by have:=r.un;omega
def AE:TA:=λ_ H Q=>Q [] H
def AC(ta:TE)(tr:TA):TA:=λσ H Q=>ta σ H λx H1=>tr σ H1 λxs H2=>Q (x::xs) H2
section
variable{X:Cx}{e:Expr}{es:List Expr}{te:TE}{t:TA}{pos:Pos}
theorem AG:PA X [] AE:=λ_ _ _ _ H Q I h=>Calls.spliced_nil ⟨[],H,I,.nil,h⟩
theorem AD(ha:PE X e te)(hr:PA X es t)(hs:starEach (e::es) X.env=(false,eval e X.env)::starEach es X.env:=by rfl):PA X (e::es) (AC te t):=by
 intro pos pins s σ H Q I h
 rw[hs]
 show wpAny _ _ (spliced ((false,eval e X.env)::backTo pos (starEach es X.env))) _ _ s
 refine Calls.spliced_cons (AM (ha pins s σ H _ I h) λu s1 ⟨x,H1,I1,r1,q1⟩=> ?_)
 exact AM (hr pos pins s1 σ H1 _ I1 q1) λus s2 ⟨xs,H2,I2,r2,q2⟩=>⟨x::xs,H2,I2,.cons r1 r2,q2⟩
def EZ(t:TA):TE:=λσ H Q=>t σ H λxs H1=>xs.length<=sizeLine/\∀ p,H1 p=none->Q (.ref p) (upd H1 p (.tup xs))
def CG(t:TA):TE:=λσ H Q=>t σ H λxs H1=>xs.length<=sizeLine/\∀ p,H1 p=none->Q (.ref p) (upd H1 p (.lst xs))
theorem GD{x1}(h:PA X es t):PE X (.Tuple es x1 pos) (EZ t):=by
 intro pins s σ H Q I hq
 refine wpAny_Tuple_spliced (AM (h pos pins s σ H _ I hq) λus s1 ⟨xs,H1,I1,r,z,q⟩=>⟨by rw[<-r.length];exact z,?_⟩)
 have hf:H1 s1.heap.objs.size=none:=I1.hok.fresh (Nat.le_refl _)
 refine⟨.ref s1.heap.objs.size,upd H1 s1.heap.objs.size (.tup xs),I1.laid (t':=s1.toks) (λb u e=>Heap.get?_push_of_some _ e) (Nat.le_refl _) ?_,rfl,q _ hf⟩
 exact⟨z,us,r,⟨_,Heap.get?_push_size _ rfl,rfl,_,rfl⟩⟩
theorem CK(h:PA X es t):PE X (.List es pos) (CG t):=by
 intro pins s σ H Q I hq
 refine wpAny_List_spliced (AM (h pos pins s σ H _ I hq) λus s1 ⟨xs,H1,I1,r,z,q⟩=>⟨by rw[<-r.length];exact z,?_⟩)
 have hf:H1 s1.heap.objs.size=none:=I1.hok.fresh (Nat.le_refl _)
 refine⟨.ref s1.heap.objs.size,upd H1 s1.heap.objs.size (.lst xs),I1.laid (t':=s1.toks) (λb u e=>Heap.get?_push_of_some _ e) (Nat.le_refl _) ?_,rfl,q _ hf⟩
 exact⟨z,us,0,r,Heap.get?_push_size _ rfl⟩
end
abbrev Sp:=List V->Hp->VK->XK->Prop
abbrev DV:=List Env->Hp->Shared->XK->Value->Shared->Prop
structure Env0(P:Program)(w:World)(K:W.Frag)(mg:Str->Option Value)(base:Heap)(A:Around)(outer:List Env)(s:Shared)(H:Hp):Prop where
 frames:A.frames=some outer
 mod:Mod K mg base
 bs:∀ b o,base.get? b=some o->s.heap.get? b=some o/\H b=none
 bsz:base.objs.size<=s.heap.objs.size
 funs:s.heap.FunFrames base outer
 frf:∀ b∈CP outer,H b=none
 hok:HOk P w H s.heap
 bare:AllBare s.gens
def CE(outer:List Env)(P:Program)(w:World)(H:Hp)(s:Shared)(Q:VK)(u:Value)(s':Shared):Prop :=
 ∃ v H',s'.os=s.os/\AllBare s'.gens/\Un (CP outer) [] H H' s.heap s'.heap/\HOk P w H' s'.heap/\RelV v u/\Q v H'
def CR(CX:DV)(outer:List Env)(P:Program)(w:World)(H:Hp)(s:Shared)(Q:VK)(E:XK)(r:Result)(s':Shared):Prop :=
 match r with
 | .ok (.ret u)=>CE outer P w H s Q u s'
 | .ok _=>False
 | .error e=>CX outer H s E e s'
structure FnOk(P:Program)(w:World)(K:W.Frag)(mg:Str->Option Value)(base:Heap)(CX:DV)(k:Nat)(f:Addr)(fd:FuncData)(ps:List Str)(sp:Sp):Prop where
 len:∀ vs H Q E,sp vs H Q E->vs.length=ps.length
 run:∀ (A:Around) (outer:List Env) (s:Shared) (H:Hp) (args:Args) (us:List Value) (vs:List V) (Q:VK) (E:XK),Room k A->Env0 P w K mg base A outer s H->BindsTo s fd args (ps.zip us)->Vals vs us->sp vs H Q E →
  codeAny (model P w) A (.call (.ref f) args) (CR CX outer P w H s Q E) s
theorem FnOk.mono{P:Program}{w:World}{K:W.Frag}{mg:Str->Option Value}{base:Heap}{CX:DV}{j k:Nat}{f:Addr}{fd:FuncData}{ps:List Str}{sp:Sp}(F:FnOk P w K mg base CX j f fd ps sp)(h:j<=k) :
  FnOk P w K mg base CX k f fd ps sp:=⟨F.len,λA outer s H args us vs Q E hr=>F.run A outer s H args us vs Q E (hr.mono h)⟩
theorem FnOk.imp{P:Program}{w:World}{K:W.Frag}{mg:Str->Option Value}{base:Heap}{CX:DV}{k:Nat}{f:Addr}{fd:FuncData}{ps:List Str}{sp sp':Sp}(F:FnOk P w K mg base CX k f fd ps sp)
  (h:∀ vs H Q E,sp' vs H Q E->sp vs H Q E):FnOk P w K mg base CX k f fd ps sp' :=
 ⟨λvs H Q E q=>F.len vs H Q E (h _ _ _ _ q),λA outer s H args us vs Q E hr he hb hv hs=>F.run A outer s H args us vs Q E hr he hb hv (h _ _ _ _ hs)⟩
theorem Env0.make{P:Program}{w:World}{K:W.Frag}{mg:Str->Option Value}{base:Heap}{A:Around}{outer:List Env}{s:Shared}{H:Hp}(e:Env0 P w K mg base A outer s H)(C:Addr)(us:List Value)(kw:List (Str × Value)) :
  Env0 P w K mg base (A.under (.builtin "type.__call__" ⟨.ref C::us,kw⟩)) outer s H:=⟨by first | exact e.frames | (simpa [Around.under,Code.envs,Code.isFrame,pushEnvs]using e.frames),e.mod,e.bs,e.bsz,e.funs,e.frf,e.hok,e.bare⟩
theorem Env0.in1{P:Program}{w:World}{K:W.Frag}{mg:Str->Option Value}{base:Heap}{A:Around}{outer:List Env}{s:Shared}{H:Hp}(e:Env0 P w K mg base A outer s H) :
  Env0 P w K mg base A.in1 outer s H:=⟨e.frames,e.mod,e.bs,e.bsz,e.funs,e.frf,e.hok,e.bare⟩
section
variable{X:Cx}{pins:List (Addr × Obj)}{σ:St}{H:Hp}{s s':Shared}
theorem Inv.env0(I:Inv X pins σ H s):Env0 X.prog X.w X.K X.mg X.base X.A X.stack s H :=
 ⟨I.ok.frames,I.ok.mod,I.bs,Nat.le_trans I.ok.bsz I.sz,I.stack,I.stkFree,I.hok,I.bare⟩
theorem Inv.after{Q:VK}{u:Value}(I:Inv X pins σ H s)(h:CE X.stack X.prog X.w H s Q u s'):EP X pins σ Q u s':=by
 obtain⟨v,H',os,bare,un,hok,r,q⟩:=h
 obtain⟨hh,g,d,t,os'⟩:=s'
 obtain rfl:os'=s.os:=os
 exact⟨v,H',I.call (h':=hh) (g':=g) (d':=d) (t':=t) (ch:=[]) un hok bare (λb z=>absurd z (by simp)),r,q⟩
end
def BO(sp:Sp)(dvs:List V)(E:St->XK)(t:TA):TE:=λσ H Q=>t σ H λvs H1=>sp (vs++dvs) H1 Q (E σ)
def A5(C:Addr)(m:Str)(sp:Sp)(dvs:List V)(E:St->XK)(ta:TE)(t:TA):TE:=λσ H Q=>ta σ H λx H1=>∃ a dx fs,x=.ref a/\H1 a=some (.ins C dx fs)/\fs.lookup m=none ∧
 t σ H1 λvs H2=>sp (x::(vs++dvs)) H2 Q (E σ)
def DA(C:Addr)(sp:Sp)(dvs:List V)(E:St->XK)(t:TA):TE:=λσ H Q=>t σ H λvs H1=>∀ x dx,H1 x=none->H1 dx=none->dx≠x →
 sp (.ref x::(vs++dvs)) (upd (upd H1 dx (.own x)) x (.ins C dx [])) (λv H2=>v=.non/\Q (.ref x) H2) (E σ)
def Binds(K:W.Frag)(fd:FuncData)(ps:List Str)(ds:List Value):Prop :=
 ∀ (s:Shared) (us:List Value),K.In s.heap->(us++ds).length=ps.length->BindsTo s fd ⟨us,[]⟩ (ps.zip (us++ds))
theorem Binds.all{K:W.Frag}{fd:FuncData}{ps:List Str}(h:∀ us:List Value,us.length=ps.length->bindArgs fd ⟨us,[]⟩=pure (ps.zip us)):Binds K fd ps []:=λs us _ hl=>by
 rw[List.append_nil]at hl ⊢
 exact .of_eq (h us hl)
def DW(CX:DV)(X:Cx)(E:St->XK):Prop:=∀ (pins:List (Addr × Obj)) (σ:St) (H:Hp) (s:Shared) (e:Value) (s':Shared),Inv X pins σ H s->CX X.stack H s (E σ) e s'->X.xe e s'
section
variable{X:Cx}{CX:DV}{k:Nat}{f C:Addr}{fd:FuncData}{ps:List Str}{sp:Sp}{dvs:List V}{ds:List Value}{E:St->XK}{x m:Str}{p pos apos:Pos}{e o:Expr}{es:List Expr}{ta:TE}{t:TA}
theorem N6{pins:List (Addr × Obj)}{σ:St}{H:Hp}{s:Shared}{Q:VK}{us:List Value}{vs:List V}(F:FnOk X.prog X.w X.K X.mg X.base CX k f fd ps sp)(hr:Room k X.A)(hb:Binds X.K fd ps ds)(hd:Vals dvs ds)(hx:DW CX X E)
  (I:Inv X pins σ H s) (r:Vals vs us) (h:sp (vs++dvs) H Q (E σ)):wpAny (model X.prog X.w) X.A (call (.ref f) us) (EP X pins σ Q) X.xe s:=by
 have r2:Vals (vs++dvs) (us++ds):=r.append hd
 have hl:(us++ds).length=ps.length:=by rw[<-r2.length];exact F.len _ _ _ _ h
 refine wpAny_call (codeAny_mono (F.run X.A X.stack s H ⟨us,[]⟩ (us++ds) (vs++dvs) Q (E σ) hr I.env0 (hb s us I.kIn hl) r2 h) λr s' hq=> ?_)
 cases r with
 | error e=>exact hx pins σ H s e s' I hq
 | ok fl =>
  cases fl with
  | ret u=>exact I.after hq
  | next=>exact False.elim hq
  | brk=>exact False.elim hq
  | cont=>exact False.elim hq
theorem fZ(F:FnOk X.prog X.w X.K X.mg X.base CX k f fd ps sp)(hr:Room k X.A)(hg:Gl X x)(hm:X.mg x=some (.ref f))(hk:W.keepIn X.K (.ref f)=true)(hb:Binds X.K fd ps ds)(hd:Vals dvs ds)(hx:DW CX X E)
  (ha:PA X (e::es) t) (hdb:(x ==("__debug__":Str))=false:=by decide) (he:starEach (e::es) X.env=(false,eval e X.env)::starEach es X.env:=by rfl) (hpl:(backTo pos (starEach es X.env)).any (·.1)=false:=by rfl) :
  PE X (.Call (.Name x p) (e::es) [] pos) (BO sp dvs E t):=by
 intro pins s σ H Q I h
 refine wpAny_Call_Name_kw (HV I hg hm ?_ hdb)
 refine W.callWith_K (h₀:=X.base) I.ok.mod.kin hk (AM (ha pos pins s σ H _ I h) λus s1 ⟨vs,H1,I1,r,q⟩=>⟨I1.kIn,?_⟩) he hpl
 exact N6 F hr hb hd hx I1 r q
theorem f6{pl:Sem Bool}(he:PE X o ta)(c:Cls X.K C)(hm:MD X.K C m f)(F:FnOk X.prog X.w X.K X.mg X.base CX k f fd ps sp)(hr:Room k X.A)(hb:Binds X.K fd ps ds)(hd:Vals dvs ds)(hx:DW CX X E)(ha:PA X (e::es) t)
  (hst:starEach (e::es) X.env=(false,eval e X.env)::starEach es X.env:=by rfl) (hpl:(backTo pos (starEach es X.env)).any (·.1)=false:=by rfl)
  (ht:eval (.Call (.Attribute o m apos) (e::es) [] pos) X.env=(do
   let ov ← eval o X.env
   standAt apos.atName
   let (f,first) ← holding [ov] (getMethod ov m pl)
   callWith pos f first (backTo pos (starEach (e::es) X.env)) (backToKw pos (keywordEach [] X.env))):=by rfl) :
  PE X (.Call (.Attribute o m apos) (e::es) [] pos) (A5 C m sp dvs E ta t):=by
 intro pins s σ H Q I h
 refine W.methodCall_KW (pl:=pl) (AM (he pins s σ H _ I h) λu s1 ⟨x,H1,I1,rx,a,dx,fs,ex,ea,l,q⟩=> ?_) ht
 subst ex
 obtain rfl:u=Value.ref a:=rx
 refine T7 I1 ea c hm l ?_
 refine W.callWith_K (first:=[.ref a]) (h₀:=X.base) I.ok.mod.kin hm.kp (AM (ha pos pins s1 σ H1 _ I1 q) λus s2 ⟨vs,H2,I2,r,q2⟩=>⟨I2.kIn,?_⟩) hst hpl
 exact N6 (us:=.ref a::us) (vs:=.ref a::vs) F hr hb hd hx I2 (.cons rfl r) q2
theorem f7{pl:Sem Bool}(he:PE X o ta)(c:Cls X.K C)(hm:MD X.K C m f)(F:FnOk X.prog X.w X.K X.mg X.base CX k f fd ps sp)(hr:Room k X.A)(hb:Binds X.K fd ps ds)(hd:Vals dvs ds)(hx:DW CX X E)
  (ht:eval (.Call (.Attribute o m apos) [] [] pos) X.env=(do
   let ov ← eval o X.env
   standAt apos.atName
   let (f,first) ← holding [ov] (getMethod ov m pl)
   callWith pos f first (backTo pos (starEach [] X.env)) (backToKw pos (keywordEach [] X.env))):=by rfl) :
  PE X (.Call (.Attribute o m apos) [] [] pos) (A5 C m sp dvs E ta AE):=by
 intro pins s σ H Q I h
 refine W.methodCall_KW (pl:=pl) (AM (he pins s σ H _ I h) λu s1 ⟨x,H1,I1,rx,a,dx,fs,ex,ea,l,q⟩=> ?_) ht
 subst ex
 obtain rfl:u=Value.ref a:=rx
 refine T7 I1 ea c hm l ?_
 exact W.callWith_K0 (first:=[.ref a]) I1.kIn hm.kp (N6 (us:=[.ref a]) (vs:=[.ref a]) F hr hb hd hx I1 (.cons rfl .nil) q)
structure Mk(K:W.Frag)(C f:Addr):Prop where
 makes:W.makesIn K C=true
 init:W.findIn K (.ref C) "__init__"=some (some (.ref f))
 fn:W.isFn K (.ref f)=true
 kp:W.keepIn K (.ref C)=true
theorem UC{pins:List (Addr × Obj)}{σ:St}{H:Hp}{s:Shared}{Q:VK}{us:List Value}{vs:List V}(M:Mk X.K C f)(F:FnOk X.prog X.w X.K X.mg X.base CX k f fd ps sp)(hr:Room (k+1) X.A)(hb:Binds X.K fd ps ds)(hd:Vals dvs ds)
  (hx:DW CX X E) (I:Inv X pins σ H s) (r:Vals vs us)
  (h:∀ x dx,H x=none->H dx=none->dx≠x->sp (.ref x::(vs++dvs)) (upd (upd H dx (.own x)) x (.ins C dx [])) (λv H2=>v=.non/\Q (.ref x) H2) (E σ)) :
  wpAny (model X.prog X.w) X.A (call (.ref C) us) (EP X pins σ Q) X.xe s:=by
 have hq:=h (s.heap.objs.size+1) s.heap.objs.size (I.hok.fresh (Nat.le_succ _)) (I.hok.fresh (Nat.le_refl _)) (Nat.ne_of_lt (Nat.lt_succ_self _))
 have I2:=Inv.made (C:=C) I
 have r2:Vals (V.ref (s.heap.objs.size+1)::(vs++dvs)) (Value.ref (s.heap.objs.size+1)::(us++ds)):=.cons rfl (r.append hd)
 have hl:(Value.ref (s.heap.objs.size+1)::us++ds).length=ps.length:=by
  have e:=r2.length
  rw[F.len _ _ _ _ hq]at e
  exact e.symm
 refine wpAny_call (fT (f:=f) I.kIn M.makes M.init (beq_iff_eq.mp M.fn) (codeAny_mono (F.run _ X.stack _ _ ⟨Value.ref (s.heap.objs.size+1)::us,[]⟩ (Value.ref (s.heap.objs.size+1)::(us++ds)) _ _ (E σ) (hr.make C us [])
  (I2.env0.make C us []) (hb _ (Value.ref (s.heap.objs.size+1)::us) I2.kIn hl) r2 hq) λr s' hq'=> ?_))
 cases r with
 | error e=>exact hx pins σ _ _ e s' I2 hq'
 | ok fl =>
  cases fl with
  | ret u =>
   obtain⟨v,H',I3,rv,ev,q3⟩:=I2.after hq'
   subst ev
   exact⟨rv,⟨V.ref (s.heap.objs.size+1),H',I3,rfl,q3⟩⟩
  | next=>exact False.elim hq'
  | brk=>exact False.elim hq'
  | cont=>exact False.elim hq'
theorem f8(M:Mk X.K C f)(F:FnOk X.prog X.w X.K X.mg X.base CX k f fd ps sp)(hr:Room (k+1) X.A)(hg:Gl X x)(hm:X.mg x=some (.ref C))(hb:Binds X.K fd ps ds)(hd:Vals dvs ds)(hx:DW CX X E)
  (ha:PA X (e::es) t) (hdb:(x ==("__debug__":Str))=false:=by decide) (he:starEach (e::es) X.env=(false,eval e X.env)::starEach es X.env:=by rfl) (hpl:(backTo pos (starEach es X.env)).any (·.1)=false:=by rfl) :
  PE X (.Call (.Name x p) (e::es) [] pos) (DA C sp dvs E t):=by
 intro pins s σ H Q I h
 refine wpAny_Call_Name_kw (HV I hg hm ?_ hdb)
 refine W.callWith_K (h₀:=X.base) I.ok.mod.kin M.kp (AM (ha pos pins s σ H _ I h) λus s1 ⟨vs,H1,I1,r,q⟩=>⟨I1.kIn,?_⟩) he hpl
 exact UC M F hr hb hd hx I1 r q
theorem f9(M:Mk X.K C f)(F:FnOk X.prog X.w X.K X.mg X.base CX k f fd ps sp)(hr:Room (k+1) X.A)(hg:Gl X x)(hm:X.mg x=some (.ref C))(hb:Binds X.K fd ps ds)(hd:Vals dvs ds)(hx:DW CX X E)
  (hdb:(x ==("__debug__":Str))=false:=by decide):PE X (.Call (.Name x p) [] [] pos) (DA C sp dvs E AE):=by
 intro pins s σ H Q I h
 refine wpAny_Call_Name_kw (HV I hg hm ?_ hdb)
 exact W.callWith_K0 I.kIn M.kp (UC (us:=[]) M F hr hb hd hx I .nil h)
end
section
variable{X:Cx}{CX:DV}{k:Nat}{f C:Addr}{fd:FuncData}{ps ks:List Str}{sp:Sp}{E:St->XK}{x m:Str}{p pos apos kpos:Pos}{e o:Expr}{es:List Expr}{kws:List Keyword}{te ta:TE}{t tk:TA}{nm:Option Str}
structure Ey(K:W.Frag)(fd:FuncData)(ps ks:List Str)(g:List Value->List Value->List Value)(gV:List V->List V->List V):Prop where
 to:∀ (s:Shared) (us ws:List Value),K.In s.heap->(g us ws).length=ps.length->BindsTo s fd ⟨us,ks.zip ws⟩ (ps.zip (g us ws))
 rel:∀ {vs:List V} {us:List Value} {zs:List V} {ws:List Value},Vals vs us->Vals zs ws->Vals (gV vs zs) (g us ws)
variable{g:List Value->List Value->List Value}{gV:List V->List V->List V}
end
structure FnScope(N P:List Str)(sc:Scope):Prop where
 kind:sc.kind=.function
 co:sc.isCoroutine=false
 gen:sc.isGenerator=false
 nd:N.Nodup
 pre:N.take P.length=P
 par:∀ x∈P,sc.names.lookup x=some .local\/sc.names.lookup x=some .cell
 nofree:∀ y∈sc.names,y.2≠.free
theorem UD{kindOf:Str->Option NameKind}{x:Str}:∀ {binds:List (Str × Value)} {m:Str->Option Value},(∀ v,(x,v)∉binds)->bindL kindOf binds m x=m x
 | [],_,_=>rfl
 | (n,v)::r,m,h=>by
  unfold bindL
  rw[UD λw hw=>h w (List.mem_cons_of_mem _ hw)]
  split
  ·have:x≠n:=by rintro rfl;exact h v List.mem_cons_self
   simp[this]
  ·rfl
theorem UE{kindOf:Str->Option NameKind}{x:Str}:∀ {binds:List (Str × Value)} {m:Str->Option Value},(∀ v,(x,v)∉binds)->bindC kindOf binds m x=m x
 | [],_,_=>rfl
 | (n,v)::r,m,h=>by
  unfold bindC
  rw[UE λw hw=>h w (List.mem_cons_of_mem _ hw)]
  split
  ·rfl
  ·have:x≠n:=by rintro rfl;exact h v List.mem_cons_self
   simp[this]
theorem UF{kindOf:Str->Option NameKind}{x:Str}{v:Value}:∀ {P:List Str} {vs:List Value} {i:Nat} {m:Str->Option Value},P.Nodup->P[i]? =some x->vs[i]? =some v->kindOf x=some .local →
  bindL kindOf (P.zip vs) m x=some v
 | [],_,_,_,_,h,_,_=>by simp at h
 | _::_,[],_,_,_,_,h,_=>by simp at h
 | p::P,w::vs,0,m,nd,h1,h2,hk=>by
  simp at h1 h2;subst h1;subst h2
  show bindL kindOf ((p,w)::P.zip vs) m p=_
  unfold bindL
  rw[UD λv hv=>(List.nodup_cons.mp nd).1 (List.of_mem_zip hv).1,if_pos hk]
  simp
 | p::P,w::vs,i+1,m,nd,h1,h2,hk=>by
  show bindL kindOf ((p,w)::P.zip vs) m x=_
  unfold bindL
  exact UF (i:=i) (List.nodup_cons.mp nd).2 (by simpa using h1) (by simpa using h2) hk
theorem UG{kindOf:Str->Option NameKind}{x:Str}{v:Value}:∀ {P:List Str} {vs:List Value} {i:Nat} {m:Str->Option Value},P.Nodup->P[i]? =some x->vs[i]? =some v->kindOf x≠some .local →
  bindC kindOf (P.zip vs) m x=some v
 | [],_,_,_,_,h,_,_=>by simp at h
 | _::_,[],_,_,_,_,h,_=>by simp at h
 | p::P,w::vs,0,m,nd,h1,h2,hk=>by
  simp at h1 h2;subst h1;subst h2
  show bindC kindOf ((p,w)::P.zip vs) m p=_
  unfold bindC
  rw[UE λv hv=>(List.nodup_cons.mp nd).1 (List.of_mem_zip hv).1,if_neg hk]
  simp
 | p::P,w::vs,i+1,m,nd,h1,h2,hk=>by
  show bindC kindOf ((p,w)::P.zip vs) m x=_
  unfold bindC
  exact UG (i:=i) (List.nodup_cons.mp nd).2 (by simpa using h1) (by simpa using h2) hk
def A8(N:List Str)(vs:List V):St:=vs.map some++List.replicate (N.length - vs.length) none
def E3(CX:DV)(P:Program)(w:World)(K:W.Frag)(mg:Str->Option Value)(base:Heap)(N:List Str)(qual:Str)(scope:Scope)(f:Addr)(cd:Value)(A:Around)(outer:List Env)(s:Shared)(H:Hp)(E:XK):Cx where
 prog:=P
 w:=w
 K:=K
 mg:=mg
 base:=base
 A:=A.deeper (envOfC qual scope s.heap.objs.size f cd)
 N:=N
 s₀:=s
 H₀:=H
 env:=envOfC qual scope s.heap.objs.size f cd
 outer:=outer
 stack:=envOfC qual scope s.heap.objs.size f cd::outer
 ex:=[]
 calm:=true
 fn:=λ_=>true
 pn:=[]
 xe:=λe s'=>wpAny (model P w) (A.deeper (envOfC qual scope s.heap.objs.size f cd)) (leaving (envOfC qual scope s.heap.objs.size f cd) e) (λ_ s''=>CX outer H s E e s'') (λe' s''=>CX outer H s E e' s'') s'
theorem UH{sc:Scope}{n:Nat}{x:Str}(h:sc.names.lookup x=some .cell):∃ c,(cellsFrom n sc.names []).lookup x=some c:=by
 have q:=W.cellsFrom_some sc.names n [] (.inl h)
 exact Option.isSome_iff_exists.mp q
theorem gA{CX:DV}{P:Program}{w:World}{K:W.Frag}{mg:Str->Option Value}{base:Heap}{N ps:List Str}{qual:Str}{scope:Scope}{f:Addr}{cd:Value}{A:Around}{outer:List Env}{s s1:Shared}{H:Hp}{E:XK}{us:List Value}{vs:List V}
  (S:FnScope N ps scope) (hd:A.handled=none) (e0:Env0 P w K mg base A outer s H) (hl:vs.length=ps.length) (r:Vals vs us)
  (x:InCallC s s.heap.objs.size (bindL (envOfC qual scope s.heap.objs.size f cd).kindOf (ps.zip us) λ_=>none) (cellsFrom (s.heap.objs.size+1) scope.names []) (bindC (envOfC qual scope s.heap.objs.size f cd).kindOf (ps.zip us) λ_=>none) s1) :
  Inv (E3 CX P w K mg base N qual scope f cd A outer s H E) [] (A8 N vs) H s1:=by
 have hpl:ps.length<=N.length:=by have:=congrArg List.length S.pre;rw[List.length_take]at this;omega
 obtain⟨h1,tk,rfl,hk⟩:=x.done
 have noA:∀ b:Addr,b∉(E3 CX P w K mg base N qual scope f cd A outer s H E).ex:=λb z=>absurd (show b∈([]:List Addr)from z) (by simp)
 refine⟨⟨e0.mod,S.kind,rfl,rfl,Nat.le_refl _,λy z c h1 h2=> ?_,λy hy=> ?_,λy c _ h=> ?_,λ_=>hd,Around.frames_deeper e0.frames,.inr ⟨rfl,rfl⟩,λb z=>absurd z (noA b),e0.bs,e0.bsz,λb _ _=>noA b,λb z=>absurd z (noA b),e0.funs,e0.frf⟩,
  rfl,e0.bare,Un.kept hk,⟨_,x.toInCall.ns,λi y v h1 h2 h3=> ?_⟩,λy c h=>⟨_,x.cell y c h⟩,e0.hok.fresh (Nat.le_refl _),λy c h=> ?_,λp hp=>absurd (show p∈([]:List (Addr × Obj))from hp) (by simp),e0.hok.kept hk,?_⟩
 ·exact name_of_addr x.apart (PySem.mem_of_lookup h1) (PySem.mem_of_lookup h2)
 ·have hy:scope.names.lookup y=some .cell\/scope.names.lookup y=some .free:=hy
  rcases hy with hy | hy
  ·exact UH hy
  ·exact absurd rfl (S.nofree _ (PySem.mem_of_lookup hy))
 ·exact Nat.le_of_lt (x.above y c (PySem.mem_of_lookup h))
 ·have hi:i<vs.length:=by
   unfold A8 at h2
   by_cases hi:i<vs.length
   ·exact hi
   ·rw[List.getElem?_append_right (by simpa using hi)]at h2
    rw[List.getElem?_replicate]at h2
    split at h2<;>cases h2
  have ha:vs[i]? =some v:=by
   unfold A8 at h2
   rw[List.getElem?_append_left (by simpa using hi),List.getElem?_map]at h2
   cases e:vs[i]? with
   | none=>rw[e]at h2;cases h2
   | some a=>rw[e]at h2;cases h2;rfl
  obtain⟨u,hu,rv⟩:=r.get ha
  have hp:ps[i]? =some y:=by
   rw[<-S.pre,List.getElem?_take_of_lt (by omega)];exact h1
  have ndP:ps.Nodup:=by rw[<-S.pre];exact S.nd.sublist (List.take_sublist _ _)
  refine⟨u,rv,?_⟩
  rcases S.par y (List.mem_of_getElem? hp)with k | k
  ·exact .inl ⟨k,UF ndP hp hu k⟩
  ·obtain⟨c,e⟩:=UH (n:=s.heap.objs.size+1) k
   refine .inr ⟨.inl k,c,e,?_⟩
   have q:=x.cell y c e
   rw[UG ndP hp hu (by show scope.names.lookup y≠_;rw[k];decide)]at q
   exact q
 ·exact e0.hok.fresh (Nat.le_of_lt (x.above y c (PySem.mem_of_lookup h)))
 ·unfold A8
  show _=N.length
  rw[List.length_append,List.length_map,List.length_replicate]
  omega
theorem UI{CX:DV}{P:Program}{w:World}{K:W.Frag}{mg:Str->Option Value}{base:Heap}{k:Nat}{f:Addr}{name qual:Str}{params:Arguments}{body:List Stmt}{scope:Scope}{dV kV doc pm cdv ct oc:Value}{an od:Option Addr}
  {osl:Array (Option Value)} {N ps:List Str} {sp:Sp} (lk:K.lookup f=some ⟨oc,od,.func (W.fnOf name qual params body scope dV kV doc pm an cdv ct),osl⟩) (hcd:W.codeIn K cdv qual=true) (S:FnScope N ps scope)
  (len:∀ vs H Q E,sp vs H Q E->vs.length=ps.length)
  (hbody:∀ (A:Around) (outer:List Env) (s:Shared) (H:Hp) (vs:List V) (Q:VK) (E:XK),Room k (A.deeper (envOfC qual scope s.heap.objs.size f cdv))->sp vs H Q E →
   ∃ t,PSs (E3 CX P w K mg base N qual scope f cdv A outer s H E) body t/\t { nx:=λ_ H'=>Q .non H',rt:=Q } (A8 N vs) H) :
  FnOk P w K mg base CX (k+1) f (W.fnOf name qual params body scope dV kV doc pm an cdv ct) ps sp:=by
 refine⟨len,λA outer s H args us vs Q E hr e0 hb r hsp=> ?_⟩
 have hl:=len _ _ _ _ hsp
 have KX:K.In s.heap:=e0.mod.kin.keeps λb o e=>(e0.bs b o e).1
 have lim:s.heap.NoLimit:=e0.mod.nolimit.keeps λb o e=>(e0.bs b o e).1
 have hkind:∀ y∈ps.zip us,scope.names.lookup y.1=some .local\/(scope.names.lookup y.1=some .cell/\((cellsFrom (s.heap.objs.size+1) scope.names []).lookup y.1).isSome=true):=λ⟨n,v⟩ hy=>by
  rcases S.par n (List.of_mem_zip hy).1 with q | q
  ·exact .inl q
  ·exact .inr ⟨q,W.cellsFrom_some _ _ _ (.inl q)⟩
 refine codeAny_call_function hr.depth (KX _ _ lk) rfl S.co S.gen rfl (W.codeRec_of KX hcd) (hb _ _ _ _ ?_)
 refine wpAny_newFunctionEnv_cells S.kind hkind λenv he s1 x=> ?_
 subst he
 refine⟨lim.keeps x.toInCall.keep,codeAny_func ?_⟩
 obtain⟨t,ht,hq⟩:=hbody A outer s H vs Q E (hr.deeper _) hsp
 have I:Inv (E3 CX P w K mg base N qual scope f cdv A outer s H E) [] (A8 N vs) H s1:=gA S hr.hd e0 hl r x
 refine wpAny_mono (ht [] s1 (A8 N vs) H _ I hq) (λfl s' hs=> ?_) λe s' hs=>hs
 have fin:∀ {σ':St} {H':Hp} {v:V} {u:Value},Inv (E3 CX P w K mg base N qual scope f cdv A outer s H E) [] σ' H' s'->RelV v u->Q v H'->CE outer P w H s Q u s' :=
  λ{σ' H' v u} J rv q=>⟨v,H',J.os,J.bare,J.base,J.hok,rv,q⟩
 cases fl with
 | ret u =>
  obtain⟨v,σ',H',J,rv,q⟩:=hs
  exact fin J rv q
 | next =>
  obtain⟨σ',H',J,q⟩:=hs
  exact fin (v:=V.non) (u:=Value.none) J rfl q
 | brk =>
  obtain⟨_,_,_,q⟩:=hs
  exact False.elim q
 | cont =>
  obtain⟨_,_,_,q⟩:=hs
  exact False.elim q
end L2
namespace L2
section
variable{X:Cx}{x:Str}{p pos:Pos}{e:Expr}{es:List Expr}{t:TA}{id T:String}{r:List V->Hp->VK->Prop}
def BK(r:List V->Hp->VK->Prop)(t:TA):TE:=λσ H Q=>t σ H λvs H1=>r vs H1 Q
theorem CM(hc:CallR X (.builtin id) r)(hg:Gl X x)(hm:X.mg x=none)(hv:bootBuiltins x=some (.builtin id))(ha:PA X (e::es) t)(hn:x≠"__name__":=by decide)(hdb:(x ==("__debug__":Str))=false:=by decide)
  (he:starEach (e::es) X.env=(false,eval e X.env)::starEach es X.env:=by rfl) (hpl:(backTo pos (starEach es X.env)).any (·.1)=false:=by rfl):PE X (.Call (.Name x p) (e::es) [] pos) (BK r t):=by
 intro pins s σ H Q I h
 refine wpAny_Call_Name_kw (LO I hg hm hv ?_ hn hdb)
 exact PyProof.Rows.callWith_builtin1 (AM (ha pos pins s σ H _ I h) λus s1 ⟨vs,H1,I1,r1,q1⟩=>hc pins s1 σ H1 vs us Q I1 r1 q1) he hpl
theorem D4(hc:CallR X (.type T) r)(hg:Gl X x)(hm:X.mg x=none)(hv:bootBuiltins x=some (.type T))(ha:PA X (e::es) t)(hn:x≠"__name__":=by decide)(hdb:(x ==("__debug__":Str))=false:=by decide)
  (he:starEach (e::es) X.env=(false,eval e X.env)::starEach es X.env:=by rfl) (hpl:(backTo pos (starEach es X.env)).any (·.1)=false:=by rfl):PE X (.Call (.Name x p) (e::es) [] pos) (BK r t):=by
 intro pins s σ H Q I h
 refine wpAny_Call_Name_kw (LO I hg hm hv ?_ hn hdb)
 exact PyProof.Rows.callWith_type1 (AM (ha pos pins s σ H _ I h) λus s1 ⟨vs,H1,I1,r1,q1⟩=>hc pins s1 σ H1 vs us Q I1 r1 q1) he hpl
end
end L2
namespace HT
open PySem PyProof.Rows
section
open PySem.SeqAt
open PySem.AutoSeq1 (wpAny_loadPart')
open PySem.MeetsSeq PySem.MeetsSeq2 PySem.MeetsSeq3
end
section
variable{prog:Program}{w:World}{A:Around}{E:Value->Shared->Prop}{s:Shared}
theorem cat_tup{t b:Addr}{vs ws:List Value}{Q:Value->Shared->Prop}(ht:IsTup s.heap t vs.toArray)(hb:IsTup s.heap b ws.toArray)(hv:vs≠[])
  (h1:ws=[]->Q (.ref t) s) (h2:ws≠[]->Q (.ref s.heap.objs.size) { s with heap:=s.heap.push { cls:=.type "tuple",data:=.seq (vs++ws).toArray } })
  (hsz:vs.length+ws.length<=sizeLine):wpAny (model prog w) A (binaryOp .Add (.ref t) (.ref b)) Q E s:=by
 obtain⟨⟨cls,dd,data,sl⟩,ho,hc,n,hd⟩:=id ht
 obtain⟨⟨cls2,dd2,data2,sl2⟩,ho2,hc2,n2,hd2⟩:=id hb
 simp only at hc hd hc2 hd2
 subst hc hd hc2 hd2
 have e:vs.toArray++ws.toArray=(vs++ws).toArray:=by simp
 by_cases hw:ws=[]
 ·exact concat_meets ⟨_,ho,rfl⟩ ⟨_,ho2,rfl⟩ noFill_tuple_add seq_tuple_add PySem.F.slot_tuple_add PySem.F.entry_tuple_add (PySem.F.args_tuple_add_2 _ _)
   (tuple_addW1 t b vs.toArray ws.toArray n n2 dd dd2 sl sl2 (by simpa using hv) (by simp[hw])) ⟨ho,ho2,h1 hw⟩
 ·refine concat_meets ⟨_,ho,rfl⟩ ⟨_,ho2,rfl⟩ noFill_tuple_add seq_tuple_add PySem.F.slot_tuple_add PySem.F.entry_tuple_add (PySem.F.args_tuple_add_2 _ _)
   (tuple_addW2 t b vs.toArray ws.toArray n n2 dd dd2 sl sl2 (by simpa using hv) (by simpa using hw) (by rw[List.size_toArray,List.size_toArray];exact hsz)) ⟨ho,ho2,?_⟩
  rw[e]
  exact h2 hw
def sIx(n d:Nat):Option Int->Nat
 | none=>d
 | some v=>if v<0 then(v+(n:Int)).toNat else min v.toNat n
theorem gB(n d:Nat)(hd:d<=n)(o:Option Int):sIx n d o<=n:=by
 cases o with
 | none=>exact hd
 | some v =>
  show(if v<0 then(v+(n:Int)).toNat else min v.toNat n)<=n
  by_cases hv:v<0
  ·rw[if_pos hv];omega
  ·rw[if_neg hv];exact Nat.min_le_right _ _
theorem UJ(v:Int)(n d:Nat):(if v<0 then max (v+(n:Int)) 0 else min v (n:Int))=((sIx n d (some v):Nat):Int):=by
 show(if v<0 then max (v+(n:Int)) 0 else min v (n:Int))=(((if v<0 then(v+(n:Int)).toNat else min v.toNat n):Nat):Int)
 by_cases hv:v<0
 ·simp only[if_pos hv];omega
 ·simp only[if_neg hv];omega
theorem gC(lo hi:Option Int)(n:Nat):Builtin.Slice.sliceAdjust lo hi 1 (n:Int)=(((sIx n 0 lo:Nat):Int),((sIx n n hi:Nat):Int)):=by
 have h1:¬ ((1:Int)<0):=by omega
 unfold Builtin.Slice.sliceAdjust
 simp only[h1,if_false]
 refine Prod.ext ?_ ?_
 ·cases lo with
  | none=>rfl
  | some v=>exact UJ v n 0
 ·cases hi with
  | none=>rfl
  | some v=>exact UJ v n n
theorem gD(i j:Nat):Builtin.Slice.slicePlaces (i:Int) (j:Int) 1=j - i:=by
 unfold Builtin.Slice.slicePlaces
 have h1:(1:Int) > 0:=by omega
 simp only[h1,if_true,Int.ediv_one]
 split<;>omega
theorem UK{v:Value}{o:Option Int}{Q:Option Int->Shared->Prop}(p:IsPart v o)(h:Q o s):wpAny (model prog w) A (Builtin.Slice.slicePartIndex v) Q E s:=by
 cases p with
 | none=>exact slicePart_none h
 | int i t=>exact slicePart_int h
theorem gE{sl:Addr}{vl vu:Value}{lo hi:Option Int}{n:Nat}{Q:Int × Int × Nat->Shared->Prop}(hs:s.heap.IsSliceOf sl vl vu .none)(pl:IsPart vl lo)(pu:IsPart vu hi)
  (h:Q (((sIx n 0 lo:Nat):Int),1,sIx n n hi - sIx n 0 lo) s):wpAny (model prog w) A (Builtin.Slice.sliceApplied (.ref sl) (pure (n:Int))) Q E s:=by
 obtain⟨os,hos,hcs,hds⟩:=id hs
 unfold Builtin.Slice.sliceApplied Builtin.Slice.sliceFields
 refine wpAny_bind (wpAny_bind (wpAny_field hos hds (x:=vl) rfl (wpAny_bind (wpAny_field hos hds (x:=vu) rfl (wpAny_bind (wpAny_field hos hds (x:=.none) rfl (wpAny_pure ?_)))))))
 refine wpAny_bind (slicePart_none ?_)
 show wpAny _ _ (if((1:Int) == 0)=true then _ else _) _ _ s
 rw[if_neg (by decide)]
 refine wpAny_bind (UK pl (wpAny_bind (UK pu (wpAny_bind (wpAny_pure ?_)))))
 show wpAny _ _ (match Builtin.Slice.sliceAdjust lo hi 1 (n:Int)with | (lo,hi)=>pure (lo,(1:Int),Builtin.Slice.slicePlaces lo hi 1)) _ _ s
 rw[gC lo hi n]
 show wpAny _ _ (pure (((sIx n 0 lo:Nat):Int),(1:Int),Builtin.Slice.slicePlaces ((sIx n 0 lo:Nat):Int) ((sIx n n hi:Nat):Int) 1)) _ _ s
 rw[gD]
 exact wpAny_pure h
theorem gF(xs:Array Value)(i k:Nat):((List.range k).filterMap λ(m:Nat)=>xs[((i:Int)+(m:Int) * 1).toNat]?).toArray=((xs.toList.drop i).take k).toArray:=by
 have e:(λ(m:Nat)=>xs[((i:Int)+(m:Int) * 1).toNat]?)=λm=>xs[i+m]? :=by
  funext m
  have:((i:Int)+(m:Int) * 1).toNat=i+m:=by omega
  rw[this]
 rw[e]
 have:=pick_run xs i k
 rw[List.filterMap_map]at this
 have e2:((λx=>xs[x]?) ∘ λx=>i+x)=λm=>xs[i+m]? :=rfl
 rw[e2]at this
 rw[this]
theorem getItem_tuple_cut{t sl:Addr}{items:Array Value}{vl vu:Value}{lo hi:Option Int}{Q:Value->Shared->Prop}(ht:IsTup s.heap t items)(hs:s.heap.IsSliceOf sl vl vu .none)(pl:IsPart vl lo)(pu:IsPart vu hi)
  (hw:¬ (sIx items.size 0 lo=0/\sIx items.size items.size hi=items.size))
  (h:Q (.ref s.heap.objs.size) { s with heap:=s.heap.push { cls:=.type "tuple",data:=.seq ((items.toList.drop (sIx items.size 0 lo)).take (sIx items.size items.size hi - sIx items.size 0 lo)).toArray } })
  (hsz:items.size<=sizeLine):wpAny (model prog w) A (getItem (.ref t) (.ref sl)) Q E s:=by
 have htake:sizeOk (.seq ((items.toList.drop (sIx items.size 0 lo)).take (sIx items.size items.size hi - sIx items.size 0 lo)).toArray):=by
  show((items.toList.drop (sIx items.size 0 lo)).take (sIx items.size items.size hi - sIx items.size 0 lo)).toArray.size<=sizeLine
  rw[List.size_toArray,List.length_take,List.length_drop,Array.length_toList]
  omega
 have hj:sIx items.size items.size hi<=items.size:=gB _ _ (Nat.le_refl _) hi
 obtain⟨os,hos,hcs,hds⟩:=id hs
 have hTs:s.TypeIs (.ref sl) "slice":=⟨os,hos,hcs⟩
 unfold getItem
 try with_reducible refine wpAny_holding ?_
 first | refine wpAny_bind (wpAny_pure ?_) | skip
 refine wpAny_bind (wpAny_sequenceKey ht.typeIs (by decide) ?_)
 refine wpAny_bind (wpAny_callSpecial?_slot (name:=Str.ofString "__getitem__") ht.typeIs PyProof.Rows.slot_tuple_getitem
  (wpAny_call_entry PyProof.Rows.slot_tuple_getitem ht.typeIs entry_tuple_getitem ?_ (args_tuple_getitem _ _)))
 show wpAny _ _ (Builtin.Tuple.tupleItemsOf (.ref t) >>= _) _ _ s
 refine wpAny_bind (tupleItemsOf_ ht ?_)
 refine wpAny_bind (wpAny_typeOf hTs ?_)
 rw[if_pos (by decide)]
 refine wpAny_bind (gE hs pl pu ?_)
 have hno:¬ ((((sIx items.size 0 lo:Nat):Int) == 0 && (1:Int) == 1 && (sIx items.size items.size hi - sIx items.size 0 lo) == items.size)=true):=by
  intro q
  rw[Bool.and_eq_true,Bool.and_eq_true]at q
  have q1:((sIx items.size 0 lo:Nat):Int)=0:=eq_of_beq q.1.1
  have q2:sIx items.size items.size hi - sIx items.size 0 lo=items.size:=eq_of_beq q.2
  exact hw ⟨by omega,by omega⟩
 show wpAny _ _ (if(((sIx items.size 0 lo:Nat):Int) == 0 && (1:Int) == 1 && (sIx items.size items.size hi - sIx items.size 0 lo) == items.size)=true then _ else _) _ _ s
 rw[if_neg hno,gF]
 first
  | exact wpAny_bind (m:=Builtin.Tuple.tupleExact _) (wpAny_newObj_type (wpAny_pure ⟨_,rfl,wpAny_pure h⟩) htake)
  | exact wpAny_bind (m:=Builtin.Tuple.tupleExact _) (wpAny_newObj_type (wpAny_bind (wpAny_pure (wpAny_pure ⟨_,rfl,wpAny_pure h⟩))) htake)
  | exact wpAny_bind (wpAny_bind (m:=Builtin.Tuple.tupleExact _) (wpAny_newObj_type (wpAny_pure (wpAny_pure ⟨_,rfl,wpAny_pure h⟩)) htake))
  | exact wpAny_bind (wpAny_bind (m:=Builtin.Tuple.tupleExact _) (wpAny_newObj_type (wpAny_pure ⟨_,rfl,wpAny_pure h⟩) htake))
end
end HT
namespace L2
abbrev TO:=St->Hp->(Option Int->Hp->Prop)->Prop
def PO(X:Cx)(e:Option Expr)(t:TO):Prop :=
 ∀ (pins:List (Addr × Obj)) (s:Shared) (σ:St) (H:Hp) (Q:Option Int->Hp->Prop),Inv X pins σ H s->t σ H Q →
  wpAny (model X.prog X.w) X.A (evalPart e X.env) (λu s'=>∃ o H',Inv X pins σ H' s'/\IsPart u o/\Q o H') X.xe s
def gG:TO:=λ_ H Q=>Q none H
def MF(t:TE):TO:=λσ H Q=>t σ H λx H1=>∃ i,x=.int i/\Q (some i) H1
section
variable{X:Cx}{e:Expr}{te:TE}{lo hi:Option Expr}{tl th:TO}{pos p2:Pos}
theorem UL(h:PE X e te):PO X (some e) (MF te):=by
 intro pins s σ H Q I hw
 rw[evalPart_some]
 refine AM (h pins s σ H _ I hw) λu s1 ⟨x,H1,I1,r1,q1⟩=> ?_
 obtain⟨i,rfl,q⟩:=q1
 obtain⟨t,rfl⟩:=r1
 exact⟨some i,H1,I1,.int i t,q⟩
def SlR(X:Cx)(r:V->Option Int->Option Int->Hp->VK->Prop):Prop :=
 ∀ (pins:List (Addr × Obj)) (s:Shared) (σ:St) (H:Hp) (x:V) (v vl vu:Value) (lo hi:Option Int) (sl:Addr) (Q:VK),Inv X pins σ H s->RelV x v->s.heap.IsSliceOf sl vl vu .none->IsPart vl lo->IsPart vu hi->r x lo hi H Q →
  ∃ T id,typeLookup (.type T) "__getitem__"=pure (some (.builtin id))/\s.TypeIs v T/\wpAny (model X.prog X.w) X.A (getItem v (.ref sl)) (EP X pins σ Q) X.xe s
theorem SlR.or{r r':V->Option Int->Option Int->Hp->VK->Prop}(h:SlR X r)(h':SlR X r'):SlR X (λx lo hi H Q=>r x lo hi H Q\/r' x lo hi H Q):=by
 intro pins s σ H x v vl vu lo hi sl Q I rx hs pl pu q
 rcases q with q | q
 ·exact h pins s σ H x v vl vu lo hi sl Q I rx hs pl pu q
 ·exact h' pins s σ H x v vl vu lo hi sl Q I rx hs pl pu q
def N7(r:V->Option Int->Option Int->Hp->VK->Prop)(te:TE)(tl th:TO):TE:=λσ H Q=>te σ H λx H1=>tl σ H1 λl H2=>th σ H2 λu H3=>r x l u H3 Q
theorem gH{r:V->Option Int->Option Int->Hp->VK->Prop}(hr:SlR X r)(he:PE X e te)(hl:PO X lo tl)(hu:PO X hi th):PE X (.Subscript e (.Slice lo hi none p2) pos) (N7 r te tl th):=by
 intro pins s σ H Q I h
 refine Subscript_ (AM (he pins s σ H _ I h) λv s1 ⟨x,H1,I1,r1,q1⟩=> ?_)
 refine wpAny_Slice (AM (hl pins s1 σ H1 _ I1 q1) λvl s2 ⟨l,H2,I2,pl,q2⟩=>AM (hu pins s2 σ H2 _ I2 q2) λvu s3 ⟨u,H3,I3,pu,q3⟩=> ?_)
 rw[evalPart_none]
 refine wpAny_pure ?_
 have I4:Inv X pins σ H3 { s3 with heap:=s3.heap.push { cls:=.type "slice",data:=.fields #[vl,vu,.none] } }:=I3.kept (t':=s3.toks) λb ob q=>Heap.get?_push_of_some _ q
 obtain⟨T,id,hT,ht,hg⟩:=hr pins { s3 with heap:=s3.heap.push { cls:=.type "slice",data:=.fields #[vl,vu,.none] } } σ H3 x v vl vu l u s3.heap.objs.size Q I4 r1 (Heap.IsSliceOf.new ..) pl pu q3
 show wpAny (model X.prog X.w) X.A (subscriptTail e (.Slice lo hi none p2) v (.ref s3.heap.objs.size)) (EP X pins σ Q) X.xe { s3 with heap:=s3.heap.push { cls:=.type "slice",data:=.fields #[vl,vu,.none] } }
 exact tail_any (ops:=[.ref s3.heap.objs.size,v]) ht hT hg (by with_unfolding_all rfl)
def FL(xs:List V)(lo hi:Option Int):List V:=(xs.drop (HT.sIx xs.length 0 lo)).take (HT.sIx xs.length xs.length hi - HT.sIx xs.length 0 lo)
theorem UM(xs:List V)(lo hi:Option Int):(FL xs lo hi).length<=xs.length:=by
 unfold FL
 rw[List.length_take,List.length_drop]
 omega
def UN(K:W.Frag):V->Option Int->Option Int->Hp->VK->Prop:=λx lo hi H Q=>∃ a xs,x=.ref a/\SqT K H a xs ∧
 ¬ (HT.sIx xs.length 0 lo=0/\HT.sIx xs.length xs.length hi=xs.length)/\∀ p,H p=none->Q (.ref p) (upd H p (.tup (FL xs lo hi)))
theorem gI:SlR X (UN X.K):=by
 intro pins s σ H x v vl vu lo hi sl Q I rx hs pl pu h
 obtain⟨a,xs,rfl,hx,hw,q⟩:=h
 cases rx
 obtain⟨its,r,ht,hz⟩:=I.tuple hx
 have hlen:its.toArray.size=xs.length:=by rw[List.size_toArray];exact r.length.symm
 refine⟨"tuple",_,PyProof.Rows.slot_tuple_getitem.lookup,ht.typeIs,?_⟩
 refine HT.getItem_tuple_cut ht hs pl pu (by rw[hlen];exact hw) ?_ (by rw[hlen];exact hz)
 rw[hlen]
 refine⟨.ref s.heap.objs.size,_,I.laid (t':=s.toks) (o:=.tup (FL xs lo hi)) (λb ob q=>Heap.get?_push_of_some _ q) (Nat.le_refl _) ?_,rfl,q _ (I.hok.fresh (Nat.le_refl _))⟩
 exact⟨Nat.le_trans (UM xs lo hi) hz,_,(r.drop (HT.sIx xs.length 0 lo)).take (HT.sIx xs.length xs.length hi - HT.sIx xs.length 0 lo),IsTup.new _ _⟩
def N8(K:W.Frag):R2:=λx y H Q=>∃ a b xs ys,x=.ref a/\y=.ref b/\SqT K H a xs/\SqT K H b ys/\xs≠[]/\xs.length+ys.length<=sizeLine ∧
 (ys=[]->Q (.ref a) H)/\(ys≠[]->∀ p,H p=none->Q (.ref p) (upd H p (.tup (xs++ys))))
theorem Vals.nil_iff{xs:List V}{us:List Value}(r:Vals xs us):us=[]↔xs=[]:=by
 cases r with
 | nil=>simp
 | cons _ _=>simp
theorem gJ:OpR X (binaryOp .Add) (N8 X.K):=by
 intro pins s σ H x y v u Q I rx ry h
 obtain⟨a,b,xs,ys,rfl,rfl,ha,hb,hx,hz,q1,q2⟩:=h
 cases rx
 cases ry
 obtain⟨its,r1,p1,_⟩:=I.tuple ha
 obtain⟨its2,r2,p2,_⟩:=I.tuple hb
 refine HT.cat_tup p1 p2 (λz=>hx (r1.nil_iff.mp z)) (λz=>⟨.ref a,H,I,rfl,q1 (r2.nil_iff.mp z)⟩) (λz=> ?_) (by rw[<-r1.length,<-r2.length];exact hz)
 refine⟨.ref s.heap.objs.size,_,I.laid (t':=s.toks) (o:=.tup (xs++ys)) (λb ob q=>Heap.get?_push_of_some _ q) (Nat.le_refl _) ?_,rfl,q2 (λw=>z (r2.nil_iff.mpr w)) _ (I.hok.fresh (Nat.le_refl _))⟩
 exact⟨by rw[List.length_append];exact hz,_,r1.append r2,IsTup.new _ _⟩
end
end L2
namespace L2
def E4(n:Nat)(i:Int):Option Nat:=if 0<=i then(if i<n then some i.toNat else none)else if -(n:Int)<=i then some (i+n).toNat else none
def GE{α :Type}(xs:List α)(i:Int):Option α :=(E4 xs.length i).bind λj=>xs[j]?
theorem UO{n:Nat}{i:Int}{j:Nat}(h:E4 n i=some j):seqIndex? i n=some j/\j<n/\ -(n:Int)<=i/\i<n:=by
 unfold E4 at h
 by_cases h0:0<=i
 ·rw[if_pos h0]at h
  by_cases h1:i<n
  ·rw[if_pos h1]at h
   have e:i.toNat=j:=Option.some.inj h
   exact⟨by rw[seqIndex_of h0 h1,e],by omega,by omega,h1⟩
  ·rw[if_neg h1]at h;cases h
 ·rw[if_neg h0]at h
  by_cases h1: -(n:Int)<=i
  ·rw[if_pos h1]at h
   have e:(i+n).toNat=j:=Option.some.inj h
   exact⟨by rw[seqIndex_neg (by omega) h1,e],by omega,h1,by omega⟩
  ·rw[if_neg h1]at h;cases h
theorem N9{α :Type}{xs:List α}{i:Int}{v: α}(h:GE xs i=some v):∃ j,seqIndex? i xs.length=some j/\xs[j]? =some v/\j<xs.length/\ -(xs.length:Int)<=i/\i<xs.length:=by
 unfold GE at h
 cases e:E4 xs.length i with
 | none=>rw[e]at h;cases h
 | some j =>
  rw[e]at h
  obtain⟨h1,h2,h3,h4⟩:=UO e
  exact⟨j,h1,h,h2,h3,h4⟩
theorem UP{α :Type}{xs:List α}{j:Nat}{v: α}(h:xs[j]? =some v):GE xs (j:Int)=some v:=by
 have hj:j<xs.length:=(List.getElem?_eq_some_iff.mp h).1
 have e:E4 xs.length (j:Int)=some j:=by
  unfold E4
  rw[if_pos (by omega),if_pos (by omega)];simp
 unfold GE;rw[e];exact h
def gK(b:Expr):Prop:=∀ o i,subscripted b false o i=operate [o,i] (getItem o i)
def IxR(X:Cx)(r:R2):Prop :=
 ∀ (value slice:Expr) (pins:List (Addr × Obj)) (s:Shared) (σ:St) (H:Hp) (x y:V) (v u:Value) (Q:VK),Inv X pins σ H s->RelV x v->RelV y u->r x y H Q →
  subscripted slice false v u=operate [v,u] (getItem v u)->wpAny (model X.prog X.w) X.A (subscriptTail value slice v u) (EP X pins σ Q) X.xe s
def MtR(X:Cx)(id:String)(r:V->List V->Hp->VK->Prop):Prop :=
 ∀ (pins:List (Addr × Obj)) (s:Shared) (σ:St) (H:Hp) (x:V) (xs:List V) (v:Value) (us:List Value) (Q:VK),Inv X pins σ H s->RelV x v->Vals xs us->r x xs H Q →
  wpAny (model X.prog X.w) X.A (call (.builtin id) (v::us)) (EP X pins σ Q) X.xe s
section
variable{X:Cx}{a b:Expr}{ta tb:TE}{pos:Pos}
theorem IxR.or{r r':R2}(h:IxR X r)(h':IxR X r'):IxR X (λx y H Q=>r x y H Q\/r' x y H Q):=by
 intro value slice pins s σ H x y v u Q I rx ry q hs
 rcases q with q | q
 ·exact h value slice pins s σ H x y v u Q I rx ry q hs
 ·exact h' value slice pins s σ H x y v u Q I rx ry q hs
theorem MtR.or{id:String}{r r':V->List V->Hp->VK->Prop}(h:MtR X id r)(h':MtR X id r'):MtR X id (λx xs H Q=>r x xs H Q\/r' x xs H Q):=by
 intro pins s σ H x xs v us Q I rx rs q
 rcases q with q | q
 ·exact h pins s σ H x xs v us Q I rx rs q
 ·exact h' pins s σ H x xs v us Q I rx rs q
theorem AU{r:R2}(hr:IxR X r)(ha:PE X a ta)(hb:PE X b tb)(hs:gK b):PE X (.Subscript a b pos) (AI r ta tb):=by
 intro pins s σ H Q I h
 exact Subscript_ (N0 ha hb I h λv u s2 x y H2 I2 rx ry q=>hr a b pins s2 σ H2 x y v u Q I2 rx ry q (hs _ _))
def UQ(K:W.Frag):R2:=λx y H Q=>∃ p xs i v,x=.ref p/\y=.int i/\SqL K H p xs/\GE xs i=some v/\Q v H
def UR(K:W.Frag):R2:=λx y H Q=>∃ p xs i v,x=.ref p/\y=.int i/\SqT K H p xs/\GE xs i=some v/\Q v H
def US:R2:=λx y H Q=>∃ z i c,x=.str z/\y=.int i/\z.length<=sizeLine/\GE z.cps.toList i=some c/\Q (.str ⟨#[c]⟩) H
theorem gL:IxR X (UQ X.K):=by
 intro value slice pins s σ H x y v u Q I rx ry h hs
 obtain⟨p,xs,i,z,rfl,rfl,hq,he,q⟩:=h
 cases rx
 obtain⟨t,rfl⟩:=ry
 obtain⟨its,r,pl,hz⟩:=I.list hq
 obtain⟨j,h1,h2,h3,h4,h5⟩:=N9 he
 obtain⟨w,ew,rw'⟩:=r.get h2
 have hl:=r.length
 have hn:=IB
 have fin:EP X pins σ Q w s:=⟨z,H,I,rw',q⟩
 by_cases h0:0<=i
 ·have hj:i.toNat=j:=by
   rw[seqIndex_of h0 h5]at h1
   exact Option.some.inj h1
  exact item_listR pl.isList h0 (by omega) (by rw[hj];simpa using ew) fin hs
 ·have hj:(i+(its.toArray.size:Int)).toNat=j:=by
   rw[seqIndex_neg (by omega) h4]at h1
   rw[List.size_toArray,<-hl]
   exact Option.some.inj h1
  exact subscriptTail_builtinR (x:=w) pl.isList.typeIs slot_list_getitem.lookup
   (wpAny_getItem_list_neg (Q:=λr s'=>r=w/\EP X pins σ Q r s') pl.isList (by omega) (by rw[List.size_toArray]<;>omega) (by omega) (by rw[hj];simpa using ew) ⟨rfl,fin⟩) hs
theorem gM:IxR X (UR X.K):=by
 intro value slice pins s σ H x y v u Q I rx ry h hs
 obtain⟨p,xs,i,z,rfl,rfl,hq,he,q⟩:=h
 cases rx
 obtain⟨t,rfl⟩:=ry
 obtain⟨its,r,pl,hz⟩:=I.tuple hq
 obtain⟨j,h1,h2,h3,h4,h5⟩:=N9 he
 obtain⟨w,ew,rw'⟩:=r.get h2
 have hl:=r.length
 have hn:=IB
 have fin:EP X pins σ Q w s:=⟨z,H,I,rw',q⟩
 exact subscriptTail_builtinR (x:=w) pl.typeIs slot_tuple_getitem.lookup
  (getItem_tuple (j:=j) (Q:=λr s'=>r=w/\EP X pins σ Q r s') pl (by omega) (by omega) (by rw[List.size_toArray,<-hl];exact h1) (by simpa using ew) ⟨rfl,fin⟩) hs
theorem gO:IxR X US:=by
 intro value slice pins s σ H x y v u Q I rx ry h hs
 obtain⟨z,i,c,rfl,rfl,hz,he,q⟩:=h
 obtain⟨t,rfl⟩:=rx
 obtain⟨t',rfl⟩:=ry
 obtain⟨j,h1,h2,h3,h4,h5⟩:=N9 he
 have hl:z.cps.toList.length=z.length:=by simp[Str.length]
 rw[hl]at h1 h4 h5
 have hn:=IB
 exact tail_any (typeIs_str s z t) slot_str_getitem.lookup (getItem_str (c:=c) (by
  have e1:decide (i< -(2 ^ 63:Int))=false:=decide_eq_false (by omega)
  have e2:decide (i ≥ 2 ^ 63)=false:=decide_eq_false (by omega)
  rw[e1,e2,Bool.or_false]) (by rw[h1];simpa using h2) ⟨.str ⟨#[c]⟩,H,I.tok _,⟨_,rfl⟩,q⟩) hs
def UT(K:W.Frag):R2:=λx y H Q=>UQ K x y H Q\/UR K x y H Q\/US x y H Q
theorem gP:IxR X (UT X.K):=gL.or (gM.or gO)
theorem gQ(its:List Value)(n j:Nat)(u:Value):Obj.mapSeq (·.setIfInBounds j u) { cls:=.type "list",data:=.seq its.toArray n }={ cls:=.type "list",data:=.seq (its.set j u).toArray n }:=by
 simp[Obj.mapSeq]
theorem Inv.lst{pins:List (Addr × Obj)}{σ:St}{H:Hp}{s:Shared}{p:Addr}{xs:List V}(I:Inv X pins σ H s)(h:H p=some (.lst xs)) :
  ∃ (its:List Value) (n:Nat),Vals xs its/\s.heap.get? p=some { cls:=.type "list",data:=.seq its.toArray n }/\xs.length<=sizeLine:=by
 obtain⟨z,its,n,r,e⟩:=I.hok p _ h
 exact⟨its,n,r,e,z⟩
theorem Inv.lstUpd{pins:List (Addr × Obj)}{σ:St}{H:Hp}{s:Shared}{p:Addr}{xs ys:List V}{its its':List Value}{n n':Nat}{f:Obj->Obj}(I:Inv X pins σ H s)(h:H p=some (.lst xs))
  (ho:s.heap.get? p=some { cls:=.type "list",data:=.seq its.toArray n }) (hf:f { cls:=.type "list",data:=.seq its.toArray n }={ cls:=.type "list",data:=.seq its'.toArray n' }) (r:Vals ys its') (hz:ys.length<=sizeLine) (t:Nat) :
  Inv X pins σ (upd H p (.lst ys)) { s with heap:=s.heap.update p f,toks:=t }:=by
 have e:(s.heap.update p f).get? p=some { cls:=.type "list",data:=.seq its'.toArray n' }:=by
  rw[Heap.get?_update_self f ho (by rw[hf]<;>rfl),hf]
 refine I.write (x:=p) (e:=p) (by rw[h];trivial) (.inl rfl) (λb u hb q=>(Heap.get?_update_other _ _ (Ne.symm hb)).trans q) ⟨_,e⟩ ?_
 exact⟨hz,its',n',r,e⟩
def UU:V->V->V->Hp->(Hp->Prop)->Prop:=λo i v H Q=>∃ p xs k j,o=.ref p/\i=.int k/\H p=some (.lst xs)/\E4 xs.length k=some j/\Q (upd H p (.lst (xs.set j v)))
theorem gR:NY X UU:=by
 intro pins s σ H o i v ov iv u Q I ro ri rv h
 obtain⟨p,xs,k,j,rfl,rfl,hp,hj,q⟩:=h
 cases ro
 obtain⟨t,rfl⟩:=ri
 obtain⟨its,n,r,ho,hz⟩:=I.lst hp
 obtain⟨h1,h2,h3,h4⟩:=UO hj
 have hl:=r.length
 have hn:=IB
 have I':Inv X pins σ (upd H p (.lst (xs.set j v))) { s with heap:=s.heap.update p (Obj.mapSeq (·.setIfInBounds j u)) } :=
  I.lstUpd hp ho (gQ its n j u) (r.set rv j) (by rw[List.length_set];exact hz) s.toks
 by_cases h0:0<=k
 ·have hk:k.toNat=j:=by
   rw[seqIndex_of h0 h4]at h1
   exact Option.some.inj h1
  exact W.ki_setAt ho h0 (by omega) (by rw[List.size_toArray,<-hl];exact h4) (by rw[hk];exact⟨_,I',q⟩)
 ·have hk:(k+(its.toArray.size:Int)).toNat=j:=by
   rw[seqIndex_neg (by omega) h3]at h1
   rw[List.size_toArray,<-hl]
   exact Option.some.inj h1
  exact W.ki_setBack ho (by omega) (by rw[List.size_toArray,<-hl];exact h3) (by omega) (by rw[hk];exact⟨_,I',q⟩)
theorem gS(lo hi:Option Int)(n:Nat):(sliceBounds lo hi none n).1=((HT.sIx n 0 lo:Nat):Int)/\(sliceBounds lo hi none n).2.1=((HT.sIx n n hi:Nat):Int)/\(sliceBounds lo hi none n).2.2=1:=by
 refine⟨?_,?_,rfl⟩
 ·cases lo with
  | none=>simp[sliceBounds,HT.sIx]
  | some i =>
   simp only[sliceBounds,HT.sIx,Option.getD_none,show(1:Int) > 0 by decide,if_true]
   by_cases h:i<0
   ·simp only[h,if_true]<;>omega
   ·simp only[h,if_false]<;>omega
 ·cases hi with
  | none=>simp[sliceBounds,HT.sIx]
  | some i =>
   simp only[sliceBounds,HT.sIx,Option.getD_none,show(1:Int) > 0 by decide,if_true]
   by_cases h:i<0
   ·simp only[h,if_true]<;>omega
   ·simp only[h,if_false]<;>omega
theorem gT(its:List Value)(lo hi:Option Int):slicePick its.toArray lo hi none=((its.drop (HT.sIx its.length 0 lo)).take (HT.sIx its.length its.length hi - HT.sIx its.length 0 lo)).toArray:=by
 obtain⟨h1,h2,h3⟩:=gS lo hi its.toArray.size
 unfold slicePick
 rw[h1,h2,h3]
 simp only[sliceRange_one,pick_run,List.size_toArray]<;>rfl
def UV(K:W.Frag):V->Option Int->Option Int->Hp->VK->Prop:=λx lo hi H Q=>∃ a xs,x=.ref a/\SqL K H a xs/\∀ p,H p=none->Q (.ref p) (upd H p (.lst (FL xs lo hi)))
theorem gU:SlR X (UV X.K):=by
 intro pins s σ H x v vl vu lo hi sl Q I rx hs pl pu h
 obtain⟨a,xs,rfl,hx,q⟩:=h
 cases rx
 obtain⟨its,r,ht,hz⟩:=I.list hx
 have hlen:=r.length
 refine⟨"list",_,slot_list_getitem.lookup,ht.isList.typeIs,?_⟩
 refine wpAny_getItem_list_slice ht.isList hs pl pu .none (by simp) ?_ (by rw[List.size_toArray]<;>omega)
 rw[gT,<-hlen]
 refine⟨.ref s.heap.objs.size,_,I.laid (t':=s.toks) (o:=.lst (FL xs lo hi)) (λb ob q=>Heap.get?_push_of_some _ q) (Nat.le_refl _) ?_,rfl,q _ (I.hok.fresh (Nat.le_refl _))⟩
 exact⟨Nat.le_trans (UM xs lo hi) hz,_,0,(r.drop (HT.sIx xs.length 0 lo)).take (HT.sIx xs.length xs.length hi - HT.sIx xs.length 0 lo),Heap.get?_push_size _ rfl⟩
theorem CallR.or{f:Value}{r r':List V->Hp->VK->Prop}(h:CallR X f r)(h':CallR X f r'):CallR X f (λxs H Q=>r xs H Q\/r' xs H Q):=by
 intro pins s σ H xs us Q I rs q
 rcases q with q | q
 ·exact h pins s σ H xs us Q I rs q
 ·exact h' pins s σ H xs us Q I rs q
theorem gW:CallR X (.type "list") (λxs H Q=>∃ p ys,xs=[.ref p]/\(SqL X.K H p ys\/SqT X.K H p ys)/\∀ l,H l=none->Q (.ref l) (upd H l (.lst ys))):=by
 intro pins s σ H xs us Q I r h
 obtain⟨p,ys,rfl,hq,q⟩:=h
 obtain⟨u,rfl,rx⟩:=FJ r
 cases rx
 have fin:∀ (its:List Value),Vals ys its->ys.length<=sizeLine->∀ (h':Heap) (c':Nat),(∀ b o',s.heap.get? b=some o'->h'.get? b=some o') →
   h'.get? s.heap.objs.size=some { cls:=.type "list",dict:=none,data:=.seq its.toArray c',slots:= #[] }->EP X pins σ Q (.ref s.heap.objs.size) { s with heap:=h' }:=λits r' hz h' c' kp e =>
  ⟨.ref s.heap.objs.size,_,I.laid (t':=s.toks) kp (Nat.le_refl _) (show ObjOk X.prog X.w _ h' _ (.lst ys)from⟨hz,its,c',r',e⟩),rfl,q _ (I.hok.fresh (Nat.le_refl _))⟩
 rcases hq with hq | hq
 ·obtain⟨its,r',pl,hz⟩:=I.list hq
  have hlen:=r'.length
  obtain⟨o,ho,hc,n,hd⟩:=pl.isList
  exact call_list_seq p (.inl rfl) ho hc hd (λh' c' kp e=>fin its r' hz h' c' kp e) (by simp only[List.size_toArray]<;>omega)
 ·obtain⟨its,r',pl,hz⟩:=I.tuple hq
  have hlen:=r'.length
  obtain⟨o,ho,hc,n,hd⟩:=pl
  exact call_list_seq p (.inr rfl) ho hc hd (λh' c' kp e=>fin its r' hz h' c' kp e) (by simp only[List.size_toArray]<;>omega)
theorem gX:CallR X (.type "tuple") (λxs H Q=>∃ p ys,xs=[.ref p]/\((SqL X.K H p ys/\∀ l,H l=none->Q (.ref l) (upd H l (.tup ys)))\/(SqT X.K H p ys/\Q (.ref p) H))):=by
 intro pins s σ H xs us Q I r h
 obtain⟨p,ys,rfl,h⟩:=h
 obtain⟨u,rfl,rx⟩:=FJ r
 cases rx
 rcases h with⟨hq,q⟩ | ⟨hq,q⟩
 ·obtain⟨its,r',pl,hz⟩:=I.list hq
  have hlen:=r'.length
  refine call_tuple_list pl.isList (λh' kp=> ?_) (by simp only[List.size_toArray]<;>omega)
  have I1:Inv X pins σ H { s with heap:=h' }:=I.kept (t':=s.toks) kp
  have I2:Inv X pins σ (upd H h'.objs.size (.tup ys)) { s with heap:=h'.push { cls:=.type "tuple",data:=.seq its.toArray } } :=
   I1.laid (t':=s.toks) (λb o e=>Heap.get?_push_of_some _ e) (Nat.le_refl _) (show ObjOk X.prog X.w _ _ _ (.tup ys)from⟨hz,its,r',IsTup.new _ _⟩)
  exact⟨.ref h'.objs.size,_,I2,rfl,q _ (I1.hok.fresh (Nat.le_refl _))⟩
 ·obtain⟨its,r',pl,hz⟩:=I.tuple hq
  exact call_tuple_same pl ⟨.ref p,H,I,rfl,q⟩
def KI(K:W.Frag)(T:String)(x:V)(H:Hp):Prop:=match x with
 | .str _=>T="str"
 | .int _=>T="int"
 | .ref p=>(T="list"/\∃ xs,SqL K H p xs)\/(T="tuple"/\∃ o,K.lookup p=some o/\o.cls=.type "tuple"/\o.dict=none) ∨
   (T="dict"/\((∃ kvs,H p=some (.dK kvs))\/∃ kvs,H p=some (.dT kvs)))\/(T="set"/\∃ S n,H p=some (.set S n))
 | _=>False
theorem gY{pins:List (Addr × Obj)}{σ:St}{H:Hp}{s:Shared}{T:String}{x:V}{v:Value}(I:Inv X pins σ H s)(r:RelV x v)(ty:KI X.K T x H) :
  s.TypeIs v T/\∀ a,v=.ref a->∃ ob,s.heap.get? a=some ob/\ob.dict=none:=by
 cases x with
 | str z =>
  obtain⟨t,rfl⟩:=r
  cases (show T="str" from ty)
  exact⟨typeIs_str s z t,λ_ e=>nomatch e⟩
 | int i =>
  obtain⟨t,rfl⟩:=r
  cases (show T="int" from ty)
  exact⟨typeIs_int s i t,λ_ e=>nomatch e⟩
 | ref p =>
  cases r
  rcases ty with⟨rfl,xs,hq⟩ | ⟨rfl,o,hk,hc,hd⟩ | ⟨rfl,hk⟩ | ⟨rfl,S,n,hk⟩
  ·obtain⟨its,_,pl,_⟩:=I.list hq
   refine⟨pl.isList.typeIs,λa e=> ?_⟩
   cases e
   obtain⟨o,n,e,c,hd,_⟩:=pl
   exact⟨o,e,hd⟩
  ·refine⟨⟨o,I.kIn p o hk,hc⟩,λa e=> ?_⟩
   cases e
   exact⟨o,I.kIn _ o hk,hd⟩
  ·have z:∃ o,s.heap.get? p=some o/\o.ExactDict:=by
    rcases hk with⟨kvs,hk⟩ | ⟨kvs,hk⟩
    ·obtain⟨_,_,_,_,o,_,_,e,ex,_⟩:=I.hok p _ hk
     exact⟨o,e,ex⟩
    ·obtain⟨_,_,_,_,o,_,_,e,ex,_⟩:=I.hok p _ hk
     exact⟨o,e,ex⟩
   obtain⟨o,e,ex⟩:=z
   refine⟨⟨o,e,ex.1⟩,λa e2=> ?_⟩
   cases e2
   exact⟨o,e,ex.2.1⟩
  ·obtain⟨o,_,_,_,e,ex,_⟩:=I.hok p _ hk
   refine⟨⟨o,e,ex.1⟩,λa e2=> ?_⟩
   cases e2
   exact⟨o,e,ex.2.1⟩
 | _=>exact False.elim ty
def gZ(K:W.Frag)(T:String)(r:V->List V->Hp->VK->Prop)(to:TE):TE:=λσ H Q=>to σ H λx H1=>KI K T x H1/\r x [] H1 Q
def EQ(K:W.Frag)(T:String)(r:V->List V->Hp->VK->Prop)(to:TE)(t:TA):TE:=λσ H Q=>to σ H λx H1=>KI K T x H1/\t σ H1 λxs H2=>r x xs H2 Q
variable{o e:Expr}{es:List Expr}{to:TE}{t:TA}{name:Str}{apos cpos:Pos}{T id:String}{r:V->List V->Hp->VK->Prop}
theorem FM(pa:PlainAttrs T)(slot:Slot T name id)(hty:typeOf (.builtin id)=pure (.type "method_descriptor"))(hm:MtR X id r)(ho:PE X o to)(ha:PA X (e::es) t)
  (hbase:attributeBase o name X.env (eval o X.env)=eval o X.env:=by rfl)
  (hfew:((backTo cpos (starEach (e::es) X.env)).all (λx=> !x.1) && (backToKw cpos (keywordEach [] X.env)).all (λx=>x.1.isSome)
   && decide ((e::es).length+([]:List Keyword).length+(if([]:List Keyword).isEmpty then 0 else 1)<30))=true:=by rfl)
  (hline:(apos.endLine == cpos.line)=true:=by rfl) (hs:starEach (e::es) X.env=(false,eval e X.env)::starEach es X.env:=by rfl) (hplain:(backTo cpos (starEach es X.env)).any (·.1)=false:=by rfl) :
  PE X (.Call (.Attribute o name apos) (e::es) [] cpos) (EQ X.K T r to t):=by
 intro pins s σ H Q I h
 refine wpAny_Call_method_late hbase hfew hline rfl (AM (ho pins s σ H _ I h) λv s1 ⟨x,H1,I1,r1,ty,q1⟩=> ?_)
 obtain⟨h1,h2⟩:=gY I1 r1 ty
 refine⟨T,id,pa,slot,hty,h1,h2,?_⟩
 have hA:=ha cpos pins s1 σ H1 _ I1 q1
 rw[hs]at hA ⊢
 refine Calls.callWith_builtin (by show(false || (backTo cpos (starEach es X.env)).any (·.1))=false;rw[hplain]<;>rfl) (Calls.evalArgs_plain ?_)
 exact AM hA λus s2 ⟨vs,H2,I2,r2,q2⟩=>hm pins s2 σ H2 x vs v us Q I2 r1 r2 q2
end
end L2
namespace L2
def g6(X:Cx)(id:String)(r:V->List V->Hp->VK->Prop):Prop :=
 ∀ (pins:List (Addr × Obj)) (s:Shared) (σ:St) (H:Hp) (x:V) (xs:List V) (v:Value) (us:List Value) (Q:VK),Inv X pins σ H s->RelV x v->Vals xs us->r x xs H Q →
  wpAny (model X.prog X.w) X.A (call (.builtin id) (v::us)) (EP X pins σ Q) X.xe s
theorem Vals.one:∀ {x:V} {us:List Value},Vals [x] us->∃ u,us=[u]/\RelV x u
 | _,_,.cons r .nil=>⟨_,rfl,r⟩
theorem Vals.two:∀ {x y:V} {us:List Value},Vals [x,y] us->∃ u v,us=[u,v]/\RelV x u/\RelV y v
 | _,_,_,.cons r (.cons q .nil)=>⟨_,_,rfl,r,q⟩
theorem Vals.zero:∀ {us:List Value},Vals [] us->us=[]
 | _,.nil=>rfl
theorem Vals.reverse{xs:List V}{us:List Value}(h:Vals xs us):Vals xs.reverse us.reverse:=by
 induction h with
 | nil=>exact .nil
 | cons r t ih=>rw[List.reverse_cons,List.reverse_cons];exact Vals.append ih (.cons r .nil)
theorem Vals.rep{xs:List V}{us:List Value}(h:Vals xs us):∀ k:Nat,Vals (List.replicate k xs).flatten (List.replicate k us).flatten
 | 0=>.nil
 | k+1=>by
  rw[List.replicate_succ,List.replicate_succ,List.flatten_cons,List.flatten_cons]
  exact Vals.append h (Vals.rep h k)
theorem MG(its:List Value):∀ (k:Nat) (acc:List Value),
  List.foldl (λx1 x2=>x1++x2) acc.toArray (List.replicate k its.toArray)=(acc++(List.replicate k its).flatten).toArray
 | 0,acc=>by simp
 | k+1,acc=>by
  have e:acc.toArray++its.toArray=(acc++its).toArray:=by simp
  have e2:(acc++its)++(List.replicate k its).flatten=acc++(List.replicate (k+1) its).flatten:=by
   rw[List.replicate_succ,List.flatten_cons,List.append_assoc]
  rw[<-e2,<-MG its k (acc++its),<-e,List.replicate_succ,List.foldl_cons]
section
variable{X:Cx}{pins:List (Addr × Obj)}{σ:St}{H:Hp}{s:Shared}{l b:Addr}{xs ys zs:List V}
theorem Inv.lset{its its':List Value}{n:Nat}{f:Array Value->Array Value}{t':Nat}(I:Inv X pins σ H s)(hH:H l=some (.lst xs))
  (e:s.heap.get? l=some { cls:=.type "list",data:=.seq its.toArray n }) (hf:f its.toArray=its'.toArray) (hv:Vals ys its') (hz:ys.length<=sizeLine) :
  Inv X pins σ (upd H l (.lst ys)) { s with heap:=s.heap.update l (Obj.mapSeq f),toks:=t' }:=by
 have q:=PySem.IsL.update e f
 rw[hf]at q
 refine I.write (x:=l) (e:=l) (by rw[hH];exact trivial) (.inl rfl) (λb' u hb hu=>(Heap.get?_update_other s.heap (Obj.mapSeq f) (Ne.symm hb)).trans hu) ⟨_,q⟩ ?_
 exact⟨hz,its',_,hv,q⟩
theorem Inv.lnew{its:List Value}{t':Nat}(I:Inv X pins σ H s)(hv:Vals ys its)(hz:ys.length<=sizeLine) :
  Inv X pins σ (upd H s.heap.objs.size (.lst ys)) { s with heap:=s.heap.push { cls:=.type "list",data:=.seq its.toArray },toks:=t' } :=
 I.laid (λ_ _ q=>Heap.get?_push_of_some _ q) (Nat.le_refl _) ⟨hz,its,0,hv,Heap.get?_push_size _ rfl⟩
theorem Inv.fresh(I:Inv X pins σ H s):H s.heap.objs.size=none:=I.hok.fresh (Nat.le_refl _)
theorem Inv.lstM(I:Inv X pins σ H s)(hH:H l=some (.lst xs)):xs.length<=sizeLine/\∃ (its:List Value) (n:Nat),Vals xs its/\xs.length=its.length/\s.heap.get? l=some { cls:=.type "list",data:=.seq its.toArray n }:=by
 obtain⟨z,its,n,r,e⟩:=I.hok l _ hH
 exact⟨z,its,n,r,r.length,e⟩
theorem g7{n:Nat}(h:n<=sizeLine):Builtin.List.listTooLong n=false:=by
 unfold Builtin.List.listTooLong
 exact decide_eq_false (by omega)
end
section
variable{X:Cx}
def UW:V->List V->Hp->VK->Prop:=λx vs H Q=>∃ l xs y,x=.ref l/\vs=[y]/\H l=some (.lst xs)/\xs.length<sizeLine/\Q .non (upd H l (.lst (xs++[y])))
theorem GF:g6 X "list.append" UW:=by
 intro pins s σ H x vs v us Q I rx rv h
 obtain⟨l,xs,y,rfl,rfl,hH,hz,q⟩:=h
 cases rx
 obtain⟨u,rfl,ru⟩:=rv.one
 obtain⟨z,its,n,r,hl,e⟩:=I.lstM hH
 refine call_meets F.slot_list_append ⟨_,e,rfl⟩ F.entry_list_append (F.args_list_append_2 _ _) (PySem.list_append l its.toArray n u (by rw[List.size_toArray];omega)) ⟨e,?_⟩
 refine⟨.non,_,I.lset (its':=its++[u]) hH e (by simp) (r.append (.cons ru .nil)) ?_,rfl,q⟩
 rw[List.length_append,List.length_singleton]
 omega
def OA:R2:=λx y H Q=>∃ l b xs zs,x=.ref l/\y=.ref b/\H l=some (.lst xs)/\H b=some (.lst zs)/\xs.length+zs.length<=sizeLine/\∀ p,H p=none->Q (.ref p) (upd H p (.lst (xs++zs)))
theorem g8:OpR X (binaryOp .Add) OA:=by
 intro pins s σ H x y v u Q I rx ry h
 obtain⟨l,b,xs,zs,rfl,rfl,hH,hB,hz,q⟩:=h
 cases rx
 cases ry
 obtain⟨z,its,n,r,hl,e⟩:=I.lstM hH
 obtain⟨z2,its2,n2,r2,hl2,e2⟩:=I.lstM hB
 refine PySem.P.add_list e e2 ?_ (by rw[List.size_toArray,List.size_toArray];omega)
 have ea:its.toArray++its2.toArray=(its++its2).toArray:=by simp
 rw[ea]
 exact⟨.ref _,_,I.lnew (t':=s.toks) (r.append r2) (by rw[List.length_append];omega),rfl,q _ I.fresh⟩
def OB:R2:=λx y H Q=>∃ l k xs,x=.ref l/\y=.int k/\H l=some (.lst xs)/\ -(2 ^ 63)<=k/\k<2 ^ 63/\xs.length * k.toNat<=sizeLine ∧
 ∀ p,H p=none->Q (.ref p) (upd H p (.lst (List.replicate k.toNat xs).flatten))
theorem UX{α :Type}(xs:List α)(k:Nat):(List.replicate k xs).flatten.length=k * xs.length:=by
 induction k with
 | zero=>simp
 | succ k ih=>rw[List.replicate_succ,List.flatten_cons,List.length_append,ih,Nat.succ_mul,Nat.add_comm]
theorem g9:OpR X (binaryOp .Mult) OB:=by
 intro pins s σ H x y v u Q I rx ry h
 obtain⟨l,k,xs,rfl,rfl,hH,h1,h2,hz,q⟩:=h
 cases rx
 obtain⟨t,rfl⟩:=ry
 obtain⟨z,its,n,r,hl,e⟩:=I.lstM hH
 have hlen:its.toArray.size * k.toNat<=sizeLine:=by rw[List.size_toArray,<-hl];exact hz
 have hcap:¬ its.toArray.size * k.toNat >(2 ^ 63 - 1) / 8:=by
  have:(sizeLine:Nat)<=(2 ^ 63 - 1) / 8:=by decide
  omega
 have hfit:¬ (!Builtin.List.listFitsIndex k)=true:=by
  rw[fitsIndex_both h1 h2]
  exact Bool.false_ne_true
 have hlong:¬ Builtin.List.listTooLong (its.toArray.size * k.toNat)=true:=by
  rw[g7 hlen]
  exact Bool.false_ne_true
 have hnew:List.foldl (λx1 x2=>x1++x2) #[] (List.replicate (if its.toArray.isEmpty=true then 0 else k.toNat) its.toArray)=(List.replicate k.toNat its).flatten.toArray:=by
  have f0:∀ m:Nat,List.foldl (λx1 x2=>x1++x2) #[] (List.replicate m its.toArray)=(List.replicate m its).flatten.toArray:=λm=>by
   have:=MG its m []
   rw[List.nil_append]at this
   exact this
  rw[f0]
  cases its with
  | nil=>simp
  | cons a r'=>rw[if_neg (by simp)]
 refine wpAny_binaryOp_repeat_ref (T:="list") (U:="int") (by decide) ⟨_,e,rfl⟩ (λs'=>typeIs_int s' k t) noFill_list_mul F.fills_int_mul F.slot_int_rmul repeat_list F.slot_int_index.lookup
  (call_meets F.slot_int_rmul (typeIs_int s k t) F.entry_int_rmul (F.args_int_rmul_2 _ _) (int___rmul___int_list k t l its.toArray n)
   ⟨e,rfl,⟨_,e,rfl⟩,call_meets F.slot_list_mul ⟨_,e,rfl⟩ F.entry_list_mul (F.args_list_mul_2 _ _) (AutoListH.list___mul___list_int_3 l its.toArray n k t hfit hcap hlong) ⟨e,?_⟩⟩)
 rw[hnew]
 exact⟨.ref _,_,I.lnew (t':=s.toks) (r.rep k.toNat) (by rw[UX,Nat.mul_comm];exact hz),rfl,q _ I.fresh⟩
end
section
variable{prog:Program}{w:World}{A:Around}{E:Value->Shared->Prop}{s:Shared}
set_option maxRecDepth 100000 in
end
section
variable{X:Cx}
end
end L2
namespace L2
section
variable{κ :Type}[DecidableEq κ]
def BC(kvs:List (κ × V))(k: κ):Option V:=(kvs.find? λkv=>decide (kv.1=k)).map (·.2)
def CA(kvs:List (κ × V))(k: κ)(v:V):List (κ × V) :=
 if(kvs.any λkv=>decide (kv.1=k))=true then kvs.map (λkv=>if kv.1=k then(kv.1,v)else kv)else kvs++[(k,v)]
def D5(kvs:List (κ × V))(k: κ):List (κ × V):=kvs.filter λkv=>decide (kv.1≠k)
theorem hE{k: κ}:BC ([]:List (κ × V)) k=none:=rfl
theorem D6{p: κ × V}{r:List (κ × V)}{k: κ}(e:p.1=k):BC (p::r) k=some p.2:=by simp[BC,List.find?_cons,e]
theorem DX{p: κ × V}{r:List (κ × V)}{k: κ}(e:¬ p.1=k):BC (p::r) k=BC r k:=by simp[BC,List.find?_cons,e]
theorem GU(k: κ):∀ kvs:List (κ × V),(kvs.any λkv=>decide (kv.1=k))=(BC kvs k).isSome
 | []=>rfl
 | p::r=>by
  rw[List.any_cons]
  by_cases e:p.1=k
  ·simp only[D6 e,decide_eq_true e,Bool.true_or,Option.isSome_some]
  ·rw[DX e,decide_eq_false e,Bool.false_or];exact GU k r
theorem UY(k j: κ)(y:V):∀ kvs:List (κ × V),BC (kvs.map λkv=>if kv.1=k then(kv.1,y)else kv) j=(BC kvs j).map λx=>if j=k then y else x
 | []=>rfl
 | p::r=>by
  have ih:=UY k j y r
  rw[List.map_cons]
  by_cases h:p.1=k
  ·rw[if_pos h]
   by_cases e:p.1=j
   ·rw[D6 (p:=(p.1,y)) e,D6 e,Option.map_some,if_pos (e.symm.trans h)]
   ·rw[DX (p:=(p.1,y)) e,DX e,ih]
  ·rw[if_neg h]
   by_cases e:p.1=j
   ·rw[D6 (p:=p) e,D6 e,Option.map_some,if_neg (λz=>h (e.trans z))]
   ·rw[DX (p:=p) e,DX e,ih]
theorem UZ(k j: κ)(y:V):∀ kvs:List (κ × V),BC kvs k=none->BC (kvs++[(k,y)]) j=if j=k then some y else BC kvs j
 | [],_=>by
  by_cases e:k=j
  ·rw[if_pos e.symm];exact D6 (p:=(k,y)) e
  ·rw[if_neg (λz=>e z.symm)];exact DX (p:=(k,y)) e
 | p::r,hn=>by
  rw[List.cons_append]
  have hk:¬ p.1=k:=λz=>by rw[D6 z]at hn;cases hn
  rw[DX hk]at hn
  have ih:=UZ k j y r hn
  by_cases e:p.1=j
  ·rw[D6 e,D6 e,if_neg (λz=>hk (e.trans z))]
  ·rw[DX e,DX e,ih]
theorem OC(kvs:List (κ × V))(k j: κ)(y:V):BC (CA kvs k y) j=if j=k then some y else BC kvs j:=by
 unfold CA
 by_cases a:(kvs.any λkv=>decide (kv.1=k))=true
 ·rw[if_pos a,UY]
  rw[GU]at a
  by_cases e:j=k
  ·obtain⟨x,hx⟩:=Option.isSome_iff_exists.mp a
   rw[if_pos e,e,hx,Option.map_some,if_pos rfl]
  ·rw[if_neg e]
   cases BC kvs j with
   | none=>rfl
   | some x=>rw[Option.map_some,if_neg e]
 ·rw[if_neg a]
  refine UZ k j y kvs ?_
  rw[GU]at a
  cases q:BC kvs k with
  | none=>rfl
  | some x=>rw[q]at a;exact(a rfl).elim
theorem IC(kvs:List (κ × V))(k: κ)(v:V):(CA kvs k v).length<=kvs.length+1:=by
 unfold CA
 split
 ·rw[List.length_map];omega
 ·rw[List.length_append,List.length_cons,List.length_nil];omega
theorem U0{kvs:List (κ × V)}{k: κ}(v:V)(h:BC kvs k=none):CA kvs k v=kvs++[(k,v)]:=by
 unfold CA
 rw[GU,h]
 exact if_neg (by decide)
theorem RelO.isSome_eq{o:Option V}{u:Option Value}(r:RelO o u):o.isSome=u.isSome:=by
 cases o with
 | none=>cases u with
  | none=>rfl
  | some _=>exact(show False from r).elim
 | some _=>cases u with
  | none=>exact(show False from r).elim
  | some _=>rfl
theorem RelO.getD{o:Option V}{u:Option Value}{d:V}{d':Value}(r:RelO o u)(rd:RelV d d'):RelV (o.getD d) (u.getD d'):=by
 cases o with
 | none=>cases u with
  | none=>exact rd
  | some _=>exact(show False from r).elim
 | some _=>cases u with
  | none=>exact(show False from r).elim
  | some _=>exact r
theorem KV.val{kvs:List (κ × V)}{vs:List (κ × Value)}(r:KV kvs vs)(k: κ):RelO (BC kvs k) (valueAt vs k):=by
 unfold KV at r
 induction r with
 | nil=>exact True.intro
 | @cons p q ps qs h t ih =>
  obtain⟨h1,h2⟩:=h
  by_cases e:p.1=k
  ·have e':q.1=k:=h1.symm.trans e
   have b:valueAt (q::qs) k=some q.2:=by simp[valueAt,List.find?_cons,e']
   rw[D6 e,b];exact h2
  ·have e':¬ q.1=k:=λz=>e (h1.trans z)
   have b:valueAt (q::qs) k=valueAt qs k:=by simp[valueAt,List.find?_cons,e']
   rw[DX e,b];exact ih
theorem KV.any{kvs:List (κ × V)}{vs:List (κ × Value)}(r:KV kvs vs)(k: κ):(kvs.any λkv=>decide (kv.1=k))=vs.any λkv=>decide (kv.1=k):=by
 unfold KV at r
 induction r with
 | nil=>rfl
 | cons h t ih=>rw[List.any_cons,List.any_cons,ih,h.1]
theorem KV.repl{kvs:List (κ × V)}{vs:List (κ × Value)}(r:KV kvs vs)(k: κ){y:V}{u:Value}(ry:RelV y u) :
  KV (kvs.map λkv=>if kv.1=k then(kv.1,y)else kv) (vs.map λkv=>if kv.1=k then(kv.1,u)else kv):=by
 unfold KV at r ⊢
 induction r with
 | nil=>exact .nil
 | @cons p q ps qs h t ih =>
  rw[List.map_cons,List.map_cons]
  refine .cons ?_ ih
  obtain⟨h1,h2⟩:=h
  by_cases e:p.1=k
  ·rw[if_pos e,if_pos (h1.symm.trans e)];exact⟨h1,ry⟩
  ·rw[if_neg e,if_neg (λz=>e (h1.trans z))];exact⟨h1,h2⟩
theorem KV.put{kvs:List (κ × V)}{vs:List (κ × Value)}(r:KV kvs vs)(k: κ){y:V}{u:Value}(ry:RelV y u):KV (CA kvs k y) (stored vs k u):=by
 unfold CA stored
 rw[r.any k]
 by_cases e:(vs.any λkv=>decide (kv.1=k))=true
 ·rw[if_pos e,if_pos e];exact r.repl k ry
 ·rw[if_neg e,if_neg e];exact Paired.snoc r ⟨rfl,ry⟩
theorem KV.drop{kvs:List (κ × V)}{vs:List (κ × Value)}(r:KV kvs vs)(k: κ):KV (D5 kvs k) (without vs k):=by
 unfold KV at r ⊢
 unfold D5 without
 induction r with
 | nil=>exact .nil
 | @cons p q ps qs h t ih =>
  obtain⟨h1,h2⟩:=h
  rw[List.filter_cons,List.filter_cons]
  by_cases e:p.1=k
  ·have a:¬ decide (p.1≠k)=true:=by simp[e]
   have b:¬ decide (q.1≠k)=true:=by simp[h1.symm.trans e]
   rw[if_neg a,if_neg b];exact ih
  ·have e':¬ q.1=k:=λz=>e (h1.trans z)
   have a:decide (p.1≠k)=true:=by simp[e]
   have b:decide (q.1≠k)=true:=by simp[e']
   rw[if_pos a,if_pos b];exact .cons ⟨h1,h2⟩ ih
theorem KV.keys{kvs:List (κ × V)}{vs:List (κ × Value)}(r:KV kvs vs):kvs.map (·.1)=vs.map (·.1):=by
 unfold KV at r
 induction r with
 | nil=>rfl
 | cons h t ih=>rw[List.map_cons,List.map_cons,ih,h.1]
theorem KV.length{kvs:List (κ × V)}{vs:List (κ × Value)}(r:KV kvs vs):kvs.length=vs.length:=Paired.length r
theorem hG(kvs:List (κ × V))(k: κ):(D5 kvs k).length<=kvs.length:=List.length_filter_le _ _
end
theorem GW{P:Program}{w:World}{k:AS}{u:Value}(r:RelV (kV k) u):(C4 P w).is k u=true:=by
 cases k with
 | inl i=>obtain⟨t,e⟩:=(show ∃ t,u=Value.int i t from r);subst e;exact dJ P w i t
 | inr x=>obtain⟨t,e⟩:=(show ∃ t,u=Value.str x t from r);subst e;exact dM P w x t
theorem U1{P:Program}{w:World}:∀ {ks:List AS} {us:List Value},Vals (ks.map kV) us->ItemsAre (C4 P w) ks us
 | [],_,r=>by rw[List.map_nil]at r;cases r;exact .nil
 | k::ks,_,r=>by
  rw[List.map_cons]at r
  cases r with
  | cons h t=>exact .cons (GW h) (U1 t)
abbrev KT(H:Hp):List (List AS × V)->List (List AS × Addr × Value)->Prop:=Paired λp q=>p.1=q.1/\H q.2.1=some (.tup (p.1.map kV))/\RelV p.2 q.2.2
theorem KT.val{H:Hp}{kvs:List (List AS × V)}{xs:List (List AS × Addr × Value)}(r:KT H kvs xs)(k:List AS):RelO (BC kvs k) ((atKey xs k).map (·.2)):=by
 induction r with
 | nil=>exact True.intro
 | @cons p q ps qs h t ih =>
  obtain⟨h1,_,h2⟩:=h
  by_cases e:p.1=k
  ·have e':q.1=k:=h1.symm.trans e
   have b:atKey (q::qs) k=some q.2:=by simp[atKey,List.find?_cons,e']
   rw[D6 e,b];exact h2
  ·have e':¬ q.1=k:=λz=>e (h1.trans z)
   have b:atKey (q::qs) k=atKey qs k:=by simp[atKey,List.find?_cons,e']
   rw[DX e,b];exact ih
theorem KT.repl{H:Hp}{kvs:List (List AS × V)}{xs:List (List AS × Addr × Value)}(r:KT H kvs xs)(k:List AS){y:V}{u:Value}(ry:RelV y u) :
  KT H (kvs.map λkv=>if kv.1=k then(kv.1,y)else kv) (xs.map (putAt k u)):=by
 induction r with
 | nil=>exact .nil
 | @cons p q ps qs h t ih =>
  rw[List.map_cons,List.map_cons]
  refine .cons ?_ ih
  obtain⟨h1,h2,h3⟩:=h
  unfold putAt
  by_cases e:p.1=k
  ·rw[if_pos e,if_pos (h1.symm.trans e)];exact⟨h1,h2,ry⟩
  ·rw[if_neg e,if_neg (λz=>e (h1.trans z))];exact⟨h1,h2,h3⟩
theorem KT.put{H:Hp}{kvs:List (List AS × V)}{xs:List (List AS × Addr × Value)}(r:KT H kvs xs)(k:List AS){b:Addr}{y:V}{u:Value}(hb:H b=some (.tup (k.map kV)))(ry:RelV y u) :
  KT H (CA kvs k y) (storedH xs k b u):=by
 have e:(kvs.any λkv=>decide (kv.1=k))=(atKey xs k).isSome:=by
  rw[GU,(r.val k).isSome_eq,Option.isSome_map]
 unfold CA storedH
 rw[e]
 by_cases q:(atKey xs k).isSome=true
 ·rw[if_pos q,if_pos q];exact r.repl k ry
 ·rw[if_neg q,if_neg q];exact Paired.snoc r ⟨rfl,hb,ry⟩
theorem KT.keeps{H H':Hp}{kvs:List (List AS × V)}{xs:List (List AS × Addr × Value)}(r:KT H kvs xs)(ht:∀ b ys,H b=some (.tup ys)->H' b=some (.tup ys)):KT H' kvs xs :=
 Paired.mapP r λ_ _ z=>⟨z.1,ht _ _ z.2.1,z.2.2⟩
section
variable{P:Program}{w:World}{H:Hp}{h:Heap}{a:Addr}
theorem U2{u:HO}(ok:HOk P w H h)(e:Rd H a u):ObjOk P w H h a u:=e.ok ok
theorem GG{kvs:List (AS × V)}(ok:HOk P w H h)(e:Rd H a (.dK kvs)):kvs.length<=sizeLine/\(a == sysModules)=false/\∃ vs,KV kvs vs/\h.DictOf (C4 P w) a vs :=
 show ObjOk P w H h a (.dK kvs)from U2 ok e
theorem U3{kvs:List (AS × V)}(ok:HOk P w H h)(e:H a=some (.dK kvs)):kvs.length<=sizeLine/\(a == sysModules)=false/\∃ vs,KV kvs vs/\h.DictOf (C4 P w) a vs:=GG ok (.inl e)
theorem ID{ks:List AS}(ok:HOk P w H h)(e:H a=some (.tup (ks.map kV))):(tupleKind (C4 P w)).is h ks a:=by
 obtain⟨_,its,r,o,h1,h2,n,h3⟩:=(show ObjOk P w H h a (.tup (ks.map kV))from ok a _ e)
 exact⟨o,its.toArray,n,h1,h2,h3,by simpa using U1 r⟩
theorem GX{kvs:List (List AS × V)}(ok:HOk P w H h)(e:Rd H a (.dT kvs)):kvs.length<=sizeLine/\(a == sysModules)=false ∧
  ∃ xs,KT H kvs xs/\h.DictOfH (tupleKind (C4 P w)) a xs:=by
 obtain⟨z,y,xs,r,o,es,ep,h1,h2,h3,h4,h5⟩:=(show ObjOk P w H h a (.dT kvs)from U2 ok e)
 refine⟨z,y,xs,r,o,es,ep,h1,h2,h3,h4,λx hx=> ?_,h5⟩
 have all:∀ {l:List (List AS × V)} {m:List (List AS × Addr × Value)},KT H l m->∀ x∈m,(tupleKind (C4 P w)).is h x.1 x.2.1:=by
  intro l m q
  induction q with
  | nil=>intro x hx;exact nomatch hx
  | @cons p q ps qs hq t ih =>
   intro x hx
   rcases List.mem_cons.mp hx with e | hx
   ·subst e
    exact ID ok (by rw[<-hq.1];exact hq.2.1)
   ·exact ih x hx
 exact all r x hx
theorem hR{kvs:List (List AS × V)}(ok:HOk P w H h)(e:H a=some (.dT kvs)):kvs.length<=sizeLine/\(a == sysModules)=false ∧
  ∃ xs,KT H kvs xs/\h.DictOfH (tupleKind (C4 P w)) a xs:=GX ok (.inl e)
end
def DGet(H:Hp)(a:Addr)(y:V)(r:Option V):Prop :=
 (∃ kvs k,Rd H a (.dK kvs)/\y=kV k/\r=BC kvs k)\/∃ kvs k b,Rd H a (.dT kvs)/\y=.ref b/\H b=some (.tup (k.map kV))/\r=BC kvs k
def DPut(H:Hp)(a:Addr)(y v:V)(H':Hp):Prop :=
 (∃ kvs k,H a=some (.dK kvs)/\y=kV k/\kvs.length<sizeLine/\H'=upd H a (.dK (CA kvs k v))) ∨
 ∃ kvs k b,H a=some (.dT kvs)/\y=.ref b/\H b=some (.tup (k.map kV))/\kvs.length<sizeLine/\H'=upd H a (.dT (CA kvs k v))
theorem DGet.k{H:Hp}{a:Addr}{kvs:List (AS × V)}{k:AS}(e:H a=some (.dK kvs)):DGet H a (kV k) (BC kvs k):=.inl ⟨kvs,k,.inl e,rfl,rfl⟩
theorem DGet.t{H:Hp}{a b:Addr}{kvs:List (List AS × V)}{k:List AS}(e:H a=some (.dT kvs))(eb:H b=some (.tup (k.map kV))):DGet H a (.ref b) (BC kvs k):=.inr ⟨kvs,k,b,.inl e,rfl,eb,rfl⟩
theorem DPut.k{H:Hp}{a:Addr}{kvs:List (AS × V)}{k:AS}{v:V}(e:H a=some (.dK kvs))(hl:kvs.length<sizeLine):DPut H a (kV k) v (upd H a (.dK (CA kvs k v))):=.inl ⟨kvs,k,e,rfl,hl,rfl⟩
theorem DPut.t{H:Hp}{a b:Addr}{kvs:List (List AS × V)}{k:List AS}{v:V}(e:H a=some (.dT kvs))(eb:H b=some (.tup (k.map kV)))(hl:kvs.length<sizeLine) :
  DPut H a (.ref b) v (upd H a (.dT (CA kvs k v))):=.inr ⟨kvs,k,b,e,rfl,eb,hl,rfl⟩
section
variable{X:Cx}{pins:List (Addr × Obj)}{σ:St}{H:Hp}{s:Shared}{a:Addr}{y v:V}{u r:Value}{o:Option V}{A:Around}{E:Value->Shared->Prop}
theorem Inv.big(I:Inv X pins σ H s):sysModules<s.heap.objs.size:=by
 have h:mainGlobals<s.heap.objs.size:=(I.mod.glob.keeps I.bk).lt
 exact Nat.lt_trans (by decide) h
theorem hU{Q:Value->Shared->Prop}(hu:A.units+1<cLine)(I:Inv X pins σ H s)(g:DGet H a y (some v))(ry:RelV y u)(h:∀ w' s',Inv X pins σ H s'->RelV v w'->Q w' s') :
  wpAny (model X.prog X.w) A (getItem (.ref a) u) Q E s:=by
 rcases g with⟨kvs,k,e,ey,l⟩ | ⟨kvs,k,b,e,ey,eb,l⟩
 ·subst ey
  obtain⟨z,hd,vs,rel,dd⟩:=GG I.hok e
  obtain⟨w',hw,rw'⟩:=RelO.some_of (v:=v) (o:=valueAt vs k) (by rw[l];exact rel.val k)
  exact wpAny_getItem_of (GW ry) dd.mapOf hw (h w' _ (I.tok _) rw')
 ·subst ey
  cases (show u=Value.ref b from ry)
  obtain⟨z,hd,xs,rel,dd⟩:=GX I.hok e
  obtain⟨w',hw,rw'⟩:=RelO.some_of (v:=v) (o:=(atKey xs k).map (·.2)) (by rw[l];exact rel.val k)
  obtain⟨p,hp,hp2⟩:=Option.map_eq_some_iff.mp hw
  refine wpAny_getItem_heap (tupleKind_room_in1 hu) (ID I.hok eb) dd hp ?_
  rw[hp2]
  exact h w' _ (I.tok _) rw'
theorem hV{Q:Value->Shared->Prop}(hu:A.units+1<cLine)(I:Inv X pins σ H s)(g:DGet H a y o)(ry:RelV y u)(h:∀ s',Inv X pins σ H s'->Q (.bool o.isSome) s') :
  wpAny (model X.prog X.w) A (compareOp .In u (.ref a)) Q E s:=by
 rcases g with⟨kvs,k,e,ey,l⟩ | ⟨kvs,k,b,e,ey,eb,l⟩
 ·subst ey
  obtain⟨z,hd,vs,rel,dd⟩:=GG I.hok e
  refine wpAny_in_of (GW ry) hd dd.mapOf ?_
  rw[<-(rel.val k).isSome_eq,<-l]
  exact h _ (I.tok _)
 ·subst ey
  cases (show u=Value.ref b from ry)
  obtain⟨z,hd,xs,rel,dd⟩:=GX I.hok e
  refine wpAny_in_heap (tupleKind_room_in1 hu) (ID I.hok eb) hd dd ?_
  have q:=(rel.val k).isSome_eq
  rw[Option.isSome_map]at q
  rw[<-q,<-l]
  exact h _ (I.tok _)
theorem hW{Q:Value->Shared->Prop}(hu:A.units+1<cLine)(I:Inv X pins σ H s)(g:DGet H a y o)(ry:RelV y u)(h:∀ s',Inv X pins σ H s'->Q (.bool (!o.isSome)) s') :
  wpAny (model X.prog X.w) A (compareOp .NotIn u (.ref a)) Q E s:=by
 rcases g with⟨kvs,k,e,ey,l⟩ | ⟨kvs,k,b,e,ey,eb,l⟩
 ·subst ey
  obtain⟨z,hd,vs,rel,dd⟩:=GG I.hok e
  refine wpAny_notIn_of (GW ry) hd dd.mapOf ?_
  rw[<-(rel.val k).isSome_eq,<-l]
  exact h _ (I.tok _)
 ·subst ey
  cases (show u=Value.ref b from ry)
  obtain⟨z,hd,xs,rel,dd⟩:=GX I.hok e
  refine wpAny_notIn_heap (tupleKind_room_in1 hu) (ID I.hok eb) hd dd ?_
  have q:=(rel.val k).isSome_eq
  rw[Option.isSome_map]at q
  rw[<-q,<-l]
  exact h _ (I.tok _)
theorem OD{h':Heap}{t':Nat}{ob:HO}(I:Inv X pins σ H s)(mu:KD (H a))(hs:Heap.SameBut a s.heap h')(he:∃ q,h'.get? a=some q)(new:ObjOk X.prog X.w (upd H a ob) h' a ob) :
  Inv X pins σ (upd H a ob) { s with heap:=h',toks:=t' } :=
 I.write (x:=a) (e:=a) mu (.inl rfl) (λb q hb z=>(hs.2 b hb).trans z) he new
theorem OE{P:Program}{w:World}{H':Hp}{h':Heap}{kvs:List (AS × V)}{vs:List (AS × Value)}(z:kvs.length<=sizeLine)(hd:(a == sysModules)=false)(rel:KV kvs vs)(dd:h'.DictOf (C4 P w) a vs) :
  ObjOk P w H' h' a (.dK kvs):=⟨z,hd,vs,rel,dd⟩
theorem hX{H':Hp}{Q:Unit->Shared->Prop}(hu:A.units+1<cLine)(I:Inv X pins σ H s)(g:DPut H a y v H')(ry:RelV y u)(rv:RelV v r)(h:∀ s',Inv X pins σ H' s'->Q () s') :
  wpAny (model X.prog X.w) A (setItem (.ref a) u r) Q E s:=by
 rcases g with⟨kvs,k,e,ey,l,eH⟩ | ⟨kvs,k,b,e,ey,eb,l,eH⟩
 ·subst ey eH
  obtain⟨z,hd,vs,rel,dd⟩:=U3 I.hok e
  have hz:vs.length<=sizeLine:=by rw[<-rel.length];exact z
  have hl:(CA kvs k v).length<=sizeLine:=by have:=IC kvs k v;omega
  refine wpAny_setItem_pairs (hsz:=hz) (GW ry) dd λh' dd' hs=>h _ ?_
  have he:∃ q,h'.get? a=some q:=let ⟨q,_,_,hq,_⟩:=dd';⟨q,hq⟩
  exact OD I (by rw[e];exact True.intro) hs he (OE hl hd (rel.put k rv) dd')
 ·subst ey eH
  cases (show u=Value.ref b from ry)
  obtain⟨z,hd,xs,rel,dd⟩:=hR I.hok e
  have hz:xs.length<=sizeLine:=by rw[<-Paired.length rel];exact z
  have hl:(CA kvs k v).length<=sizeLine:=by have:=IC kvs k v;omega
  refine wpAny_setItem_heap (hsz:=hz) (tupleKind_room_in1 hu) (ID I.hok eb) dd λh' dd' hs=>h _ ?_
  obtain⟨q,es,ep,hq,h2,h3,h4,_,h5⟩:=dd'
  refine OD I (by rw[e];exact True.intro) hs ⟨q,hq⟩ ⟨hl,hd,_,(rel.put k eb rv).keeps λc ys ec=> ?_,q,es,ep,hq,h2,h3,h4,h5⟩
  rw[AH (A6 ec e (λz=>nomatch z))]
  exact ec
end
section
variable{X:Cx}{pins:List (Addr × Obj)}{σ:St}{H:Hp}{s:Shared}{a:Addr}{kvs:List (AS × V)}{k:AS}{u:Value}{A:Around}{E:Value->Shared->Prop}
theorem hZ{v:V}{more:List Value}{Q:Value->Shared->Prop}(I:Inv X pins σ H s)(e:H a=some (.dK kvs))(ry:RelV (kV k) u)(l:BC kvs k=some v)(hm:more=[]\/∃ x,more=[x])
  (h:∀ w' s',Inv X pins σ (upd H a (.dK (D5 kvs k))) s'->RelV v w'->Q w' s'):wpAny (model X.prog X.w) A (call (.builtin "dict.pop") (.ref a::u::more)) Q E s:=by
 obtain⟨z,hd,vs,rel,dd⟩:=U3 I.hok e
 obtain⟨w',hw,rw'⟩:=RelO.some_of (v:=v) (o:=valueAt vs k) (by rw[<-l];exact rel.val k)
 have hp:(keyPart u).isSome=true:=by
  cases k with
  | inl i=>obtain⟨t,q⟩:=(show ∃ t,u=Value.int i t from ry);subst q;rfl
  | inr x=>obtain⟨t,q⟩:=(show ∃ t,u=Value.str x t from ry);subst q;rfl
 have ha:argsOk "dict.pop" ⟨.ref a::u::more,[]⟩:=by
  rcases hm with q | ⟨x,q⟩
  ·subst q;exact PySem.F.args_dict_pop_2 _ _
  ·subst q;exact PySem.F.args_dict_pop_3 _ _ _
 refine call_meetsIn PySem.F.slot_dict_pop dd.typeIs PySem.F.entry_dict_pop ha (meets_dict_pop_there (C4 X.prog X.w) a (GW ry) more hm hp)
  ⟨vs,w',dd,by rw[<-rel.length];exact z,hw,λh' dd' hs=>h w' _ ?_ rw'⟩
 have he:∃ q,h'.get? a=some q:=let ⟨q,_,_,hq,_⟩:=dd';⟨q,hq⟩
 exact OD I (by rw[e];exact True.intro) hs he (OE (Nat.le_trans (hG kvs k) z) hd (rel.drop k) dd')
end
def U4(i:Expr):Prop:=∀ ov iv,subscripted i false ov iv=operate [ov,iv] (getItem ov iv)
theorem h8{prog:Program}{w:World}{A:Around}{E:Value->Shared->Prop}{s:Shared}{env:Env}{value slice:Expr}{pos:Pos}{T id:String}{Q:Value->Shared->Prop}
  (hl:typeLookup (.type T) "__getitem__"=pure (some (.builtin id))) (hs:U4 slice)
  (h:wpAny (model prog w) A (eval value env) (λo s₁=>wpAny (model prog w) A (eval slice env) (λi s₂=>s₂.TypeIs o T/\wpAny (model prog w) A (getItem o i) Q E s₂) E s₁) E s) :
  wpAny (model prog w) A (eval (.Subscript value slice pos) env) Q E s:=by
 refine Subscript_ (wpAny_mono h (λo s₁ h₁=>wpAny_mono h₁ (λi s₂ h₂=> ?_) λ_ _ x=>x) λ_ _ x=>x)
 obtain⟨hT,h₂⟩:=h₂
 unfold subscriptTail
 refine wpAny_bind ?_
 rw[getitemInPython_of_ne hT.not_modules]
 refine wpAny_bind (wpAny_specialOf hT hl ?_)
 have fin:wpAny (model prog w) A (subscripted slice false o i) (λr s₃=>wpAny (model prog w) A (letTemporaryGo value o r >>= λ_=>pure r) Q E s₃) E s₂:=by
  rw[hs o i]
  exact wpAny_operating (wpAny_mono h₂ (λr s₃ h₃=>wpAny_bind (wpAny_letTemporaryGo (wpAny_pure h₃))) λ_ _ x=>x)
 first
  | exact wpAny_pure (wpAny_bind fin)
  | exact wpAny_bind (wpAny_pure (wpAny_bind fin))
  | exact wpAny_bind fin
theorem h9{X:Cx}{pins:List (Addr × Obj)}{σ:St}{H:Hp}{s:Shared}{a:Addr}{y:V}{o:Option V}(I:Inv X pins σ H s)(g:DGet H a y o):s.TypeIs (.ref a) "dict":=by
 rcases g with⟨kvs,k,e,_,_⟩ | ⟨kvs,k,b,e,_,_,_⟩
 ·obtain⟨_,_,vs,_,dd⟩:=GG I.hok e
  exact dd.typeIs
 ·obtain⟨_,_,xs,_,dd⟩:=GX I.hok e
  exact dd.typeIs
def MH(td ty:TE):TE:=λσ H Q=>td σ H λx H1=>ty σ H1 λy H2=>∃ a v,x=.ref a/\DGet H2 a y (some v)/\Q v H2
def KJ(ty td:TE):TE:=λσ H Q=>ty σ H λy H1=>td σ H1 λx H2=>∃ a o,x=.ref a/\DGet H2 a y o/\Q (.bl o.isSome) H2
def GY(ty td:TE):TE:=λσ H Q=>ty σ H λy H1=>td σ H1 λx H2=>∃ a o,x=.ref a/\DGet H2 a y o/\Q (.bl (!o.isSome)) H2
def GZ(td ty tv:TE):TS:=λD σ H=>tv σ H λv H1=>td σ H1 λx H2=>ty σ H2 λy H3=>∃ a H4,x=.ref a/\DPut H3 a y v H4/\D.nx σ H4
section
variable{X:Cx}{o i e value:Expr}{pos pos' tpos:Pos}{td ty tv:TE}
theorem U5(hu:X.A.units+1<cLine)(ho:PE X o td)(hi:PE X i ty)(hs:U4 i):PE X (.Subscript o i pos) (MH td ty):=by
 intro pins s σ H Q I h
 refine h8 PySem.F.slot_dict_getitem.lookup hs (AM (ho pins s σ H _ I h) λu s1 ⟨x,H1,I1,rx,q1⟩=>AM (hi pins s1 σ H1 _ I1 q1) λiv s2 ⟨y,H2,I2,ry,a,v,ex,g,q2⟩=> ?_)
 subst ex
 obtain rfl:u=Value.ref a:=rx
 exact⟨h9 I2 g,hU hu I2 g ry λw' s3 I3 rw'=>⟨v,H2,I3,rw',q2⟩⟩
theorem OF(hu:X.A.units+1<cLine)(hi:PE X i ty)(ho:PE X o td):PC X .In i o (KJ ty td):=by
 intro pins s σ H Q I h
 refine AM (hi pins s σ H _ I h) λiv s1 ⟨y,H1,I1,ry,q1⟩=>AM (ho pins s1 σ H1 _ I1 q1) λu s2 ⟨x,H2,I2,rx,a,ov,ex,g,q2⟩=> ?_
 subst ex
 obtain rfl:u=Value.ref a:=rx
 exact hV hu I2 g ry λs3 I3=>⟨.bl ov.isSome,H2,I3,rfl,q2⟩
theorem KK(hu:X.A.units+1<cLine)(hi:PE X i ty)(ho:PE X o td):PC X .NotIn i o (GY ty td):=by
 intro pins s σ H Q I h
 refine AM (hi pins s σ H _ I h) λiv s1 ⟨y,H1,I1,ry,q1⟩=>AM (ho pins s1 σ H1 _ I1 q1) λu s2 ⟨x,H2,I2,rx,a,ov,ex,g,q2⟩=> ?_
 subst ex
 obtain rfl:u=Value.ref a:=rx
 exact hW hu I2 g ry λs3 I3=>⟨.bl (!ov.isSome),H2,I3,rfl,q2⟩
theorem KL(hu:X.A.units+1<cLine)(ho:PE X o td)(hi:PE X i ty)(hv:PE X value tv)(hs:swapsWith value (some (.Subscript o i pos')) pos.line X.env=pure false) :
  PS X (.Assign [.Subscript o i pos'] value pos) (GZ td ty tv):=by
 intro pins s σ H D I h
 refine wpAny_Assign_Subscript (AM (hv pins s σ H _ I h) λr s1 ⟨v,H1,I1,rv,q1⟩=>AM (ho pins s1 σ H1 _ I1 q1) λu s2 ⟨x,H2,I2,rx,q2⟩=>AM (hi pins s2 σ H2 _ I2 q2) λiv s3 ⟨y,H3,I3,ry,a,H4,ex,g,q3⟩=> ?_) hs
 subst ex
 obtain rfl:u=Value.ref a:=rx
 exact hX hu I3 g ry rv λs4 I4=>⟨σ,H4,I4,q3⟩
end
theorem iA{P:Program}{w:World}{H:Hp}(h:Heap)(hb:sysModules<h.objs.size):ObjOk P w H (h.push { cls:=.type "dict",data:=.dict #[] }) h.objs.size (.dK []) :=
 ⟨Nat.zero_le _,beq_eq_false_iff_ne.mpr (Ne.symm (Nat.ne_of_lt hb)),[],.nil,Heap.DictOf.new h⟩
theorem iB{P:Program}{w:World}{H:Hp}(h:Heap)(hb:sysModules<h.objs.size):ObjOk P w H (h.push { cls:=.type "dict",data:=.dict #[] }) h.objs.size (.dT []) :=
 ⟨Nat.zero_le _,beq_eq_false_iff_ne.mpr (Ne.symm (Nat.ne_of_lt hb)),[],.nil,_,#[],0,Heap.get?_push_size _ rfl,⟨rfl,rfl,rfl⟩,rfl,rfl,List.nodup_nil⟩
def IE:TE:=λ_ H Q=>∀ p,H p=none->Q (.ref p) (upd H p (.dK []))
def MI:TE:=λ_ H Q=>∀ p,H p=none->Q (.ref p) (upd H p (.dT []))
section
variable{X:Cx}{pos:Pos}
theorem MJ:PE X (.Dict [] [] pos) IE:=λpins s σ H Q I h =>
 wpAny_Dict_empty ⟨.ref s.heap.objs.size,_,I.laid (a:=s.heap.objs.size) (o:=.dK []) (t':=s.toks) (λ_ _ q=>Heap.get?_push_of_some _ q) (Nat.le_refl _) (iA s.heap I.big),rfl,h _ (I.hok.fresh (Nat.le_refl _))⟩
theorem U6:PE X (.Dict [] [] pos) MI:=λpins s σ H Q I h =>
 wpAny_Dict_empty ⟨.ref s.heap.objs.size,_,I.laid (a:=s.heap.objs.size) (o:=.dT []) (t':=s.toks) (λ_ _ q=>Heap.get?_push_of_some _ q) (Nat.le_refl _) (iB s.heap I.big),rfl,h _ (I.hok.fresh (Nat.le_refl _))⟩
end
structure M1(X:Cx)(o:Expr)(m:Str)(apos:Pos)(e:Expr)(cpos:Pos):Prop where
 base:attributeBase o m X.env (eval o X.env)=eval o X.env
 few:((backTo cpos (starEach [e] X.env)).all (λx=> !x.1) && (backToKw cpos (keywordEach [] X.env)).all (λx=>x.1.isSome)
  && decide (([e]:List Expr).length+([]:List Keyword).length+(if([]:List Keyword).isEmpty then 0 else 1)<30))=true
 line:(apos.endLine == cpos.line)=true
 trees:backTo cpos (starEach [e] X.env)=[(false,eval e X.env)]
structure M2(X:Cx)(o:Expr)(m:Str)(apos:Pos)(e f:Expr)(cpos:Pos):Prop where
 base:attributeBase o m X.env (eval o X.env)=eval o X.env
 few:((backTo cpos (starEach [e,f] X.env)).all (λx=> !x.1) && (backToKw cpos (keywordEach [] X.env)).all (λx=>x.1.isSome)
  && decide (([e,f]:List Expr).length+([]:List Keyword).length+(if([]:List Keyword).isEmpty then 0 else 1)<30))=true
 line:(apos.endLine == cpos.line)=true
 trees:backTo cpos (starEach [e,f] X.env)=[(false,eval e X.env),(false,eval f X.env)]
def MK(H:Hp)(a:Addr):Prop:=(∃ kvs,Rd H a (.dK kvs))\/∃ kvs,Rd H a (.dT kvs)
theorem U7{X:Cx}{pins:List (Addr × Obj)}{σ:St}{H:Hp}{s:Shared}{a:Addr}(I:Inv X pins σ H s)(d:MK H a) :
  s.TypeIs (.ref a) "dict"/\(∀ b,Value.ref a=.ref b->∃ ob,s.heap.get? b=some ob/\ob.dict=none)/\(a == sysModules)=false:=by
 rcases d with⟨kvs,e⟩ | ⟨kvs,e⟩
 ·obtain⟨_,hd,vs,_,dd⟩:=GG I.hok e
  refine⟨dd.typeIs,λb q=> ?_,hd⟩
  cases q
  obtain⟨ob,_,_,h1,h2,_⟩:=dd
  exact⟨ob,h1,h2.2.1⟩
 ·obtain⟨_,hd,xs,_,dd⟩:=GX I.hok e
  refine⟨dd.typeIs,λb q=> ?_,hd⟩
  cases q
  obtain⟨ob,_,_,h1,h2,_⟩:=dd
  exact⟨ob,h1,h2.2.1⟩
section
variable{X:Cx}{pins:List (Addr × Obj)}{σ:St}{H:Hp}{s:Shared}{a:Addr}{y d:V}{u r:Value}{o:Option V}{A:Around}{E:Value->Shared->Prop}
theorem iC{Q:Value->Shared->Prop}(hu:A.units+1<cLine)(I:Inv X pins σ H s)(g:DGet H a y o)(ry:RelV y u)(h:∀ w' s',Inv X pins σ H s'->RelV (o.getD .non) w'->Q w' s') :
  wpAny (model X.prog X.w) A (call (.builtin "dict.get") [.ref a,u]) Q E s:=by
 rcases g with⟨kvs,k,e,ey,l⟩ | ⟨kvs,k,b,e,ey,eb,l⟩
 ·subst ey
  obtain⟨z,hd,vs,rel,dd⟩:=GG I.hok e
  refine call_meetsIn PySem.F.slot_dict_get dd.typeIs PySem.F.entry_dict_get (PySem.F.args_dict_get_2 _ _) (meets_dict_get (C4 X.prog X.w) a (GW ry) hd) ⟨_,dd.mapOf,h _ _ (I.tok _) ?_⟩
  rw[l]
  exact(rel.val k).getD rfl
 ·subst ey
  cases (show u=Value.ref b from ry)
  obtain⟨z,hd,xs,rel,dd⟩:=GX I.hok e
  refine call_meetsIn PySem.F.slot_dict_get dd.typeIs PySem.F.entry_dict_get (PySem.F.args_dict_get_2 _ _) (meetsH_dict_get (tupleKind (C4 X.prog X.w)) a b hd) ⟨tupleKind_room_in1 hu,k,xs,ID I.hok eb,dd,h _ _ (I.tok _) ?_⟩
  rw[l]
  exact(rel.val k).getD rfl
end
def OG(td ty:TE):TE:=λσ H Q=>td σ H λx H1=>∃ a,x=.ref a/\MK H1 a/\ty σ H1 λy H2=>∃ o,DGet H2 a y o/\Q (o.getD .non) H2
def OH(td ty:TE):TE:=λσ H Q=>td σ H λx H1=>∃ a,x=.ref a/\MK H1 a/\ty σ H1 λy H2=>∃ kvs k v,H2 a=some (.dK kvs)/\y=kV k/\BC kvs k=some v/\Q v (upd H2 a (.dK (D5 kvs k)))
section
variable{X:Cx}{o e f:Expr}{apos cpos:Pos}{td ty tx:TE}
theorem iD(hu:X.A.units+1<cLine)(ho:PE X o td)(he:PE X e ty)(m:M1 X o "get" apos e cpos):PE X (.Call (.Attribute o "get" apos) [e] [] cpos) (OG td ty):=by
 intro pins s σ H Q I h
 refine wpAny_Call_method m.base m.few m.line PySem.F.plainAttrs_dict PySem.F.slot_dict_get PySem.F.type_dict_get (AM (ho pins s σ H _ I h) λu s1 ⟨x,H1,I1,rx,a,ex,d,q1⟩=> ?_)
 subst ex
 obtain rfl:u=Value.ref a:=rx
 obtain⟨t1,t2,_⟩:=U7 I1 d
 refine⟨t1,t2,?_⟩
 rw[m.trees]
 refine Calls.callWith_builtin rfl (Calls.evalArgs_plain (Calls.spliced_cons (AM (he pins s1 σ H1 _ I1 q1) λiv s2 ⟨y,H2,I2,ry,ov,g,q2⟩=>Calls.spliced_nil ?_)))
 exact iC hu I2 g ry λw' s3 I3 rw'=>⟨_,H2,I3,rw',q2⟩
theorem iE(ho:PE X o td)(he:PE X e ty)(m:M1 X o "pop" apos e cpos):PE X (.Call (.Attribute o "pop" apos) [e] [] cpos) (OH td ty):=by
 intro pins s σ H Q I h
 refine wpAny_Call_method m.base m.few m.line PySem.F.plainAttrs_dict PySem.F.slot_dict_pop PySem.F.type_dict_pop (AM (ho pins s σ H _ I h) λu s1 ⟨x,H1,I1,rx,a,ex,d,q1⟩=> ?_)
 subst ex
 obtain rfl:u=Value.ref a:=rx
 obtain⟨t1,t2,_⟩:=U7 I1 d
 refine⟨t1,t2,?_⟩
 rw[m.trees]
 refine Calls.callWith_builtin rfl (Calls.evalArgs_plain (Calls.spliced_cons (AM (he pins s1 σ H1 _ I1 q1) λiv s2 ⟨y,H2,I2,ry,kvs,k,v,ea,ey,l,q2⟩=>Calls.spliced_nil ?_)))
 subst ey
 exact hZ I2 ea ry l (.inl rfl) λw' s3 I3 rw'=>⟨v,_,I3,rw',q2⟩
end
section
variable{X:Cx}{pins:List (Addr × Obj)}{σ:St}{H:Hp}{s:Shared}{a:Addr}{kvs:List (AS × V)}{A:Around}{E:Value->Shared->Prop}
theorem iF{Q:Value->Shared->Prop}(I:Inv X pins σ H s)(e:Rd H a (.dK kvs))(h:∀ p s',H p=none->Inv X pins σ (upd H p (.dK kvs)) s'->Q (.ref p) s'):wpAny (model X.prog X.w) A (call (.type "dict") [.ref a]) Q E s:=by
 obtain⟨z,hd,vs,rel,dd⟩:=GG I.hok e
 refine kt_call_dict hd dd (by rw[<-rel.length];exact z) λh' dd' hs=> ?_
 refine h _ _ (I.hok.fresh (Nat.le_refl _)) (I.laid (a:=s.heap.objs.size) (o:=.dK kvs) (t':=s.toks) (λb q hq=> ?_) (Nat.le_refl _) (OE z (beq_eq_false_iff_ne.mpr (Ne.symm (Nat.ne_of_lt I.big))) rel dd'))
 exact(hs.2 b (Nat.ne_of_lt (Heap.lt_size hq))).trans (Heap.get?_push_of_some _ hq)
end
section
variable{X:Cx}{pins:List (Addr × Obj)}{σ:St}{H:Hp}{s:Shared}{a:Addr}{y:V}{u:Value}{A:Around}{E:Value->Shared->Prop}
end
end L2
namespace Att
open PySem PySem.W PySem.Calls PyProof.Rows
theorem iG{P:Params}{h:Heap}:∀ (ns:List Int) (vs:List Value),WellAll P h vs (ns.map WData.int)->IntsAre vs ns:=by
 intro ns
 induction ns with
 | nil =>
  intro vs w
  rw[List.map_nil]at w
  cases w
  exact .nil
 | cons n ns ih =>
  intro vs w
  rw[List.map_cons]at w
  cases w with
  | cons a b =>
   cases a
   exact .cons _ _ (ih _ b)
theorem iH{l:OpenLaw}{n:Nat}(hn:l.most=some n){P:Params}{h:Heap}{args:List WData}{vals:List Value}
  (hpre:l.row.toRowW.claim.pre args=true) (hwl:WellAll P h vals args) :
  ∃ a vs ns,vals=[Value.ref a]/\args=[WData.list (ns.map WData.int)]/\h.get? a=some { cls:=.type "list",data:=.seq vs.toArray }/\IntsAre vs ns/\ns.length<=n:=by
 have hsh:WShape.hasAll [] args [.list .int]=true:=(pre_splitW hpre).1
 have hc:l.pre.holds [] { args:=args }=true:=(pre_splitW hpre).2
 obtain⟨d,r,rfl,h1,h2⟩:=hasAllW_cons hsh
 obtain rfl:=hasAllW_nil h2
 obtain⟨xs,rfl,h3⟩:=hasW_list h1
 obtain⟨ns,rfl⟩:=items_int h3
 have hlen:ns.length<=n:=by
  unfold OpenLaw.pre at hc
  have h4:(WTm.not (.lt (.lit (.int (n:Int))) (.len (.arg 0)))).holds [] { args:=[.list (ns.map .int)] }=true:=by
   have h4:=(holds_andW hc).1
   rw[hn]at h4
   exact h4
  have h5:=condW_of h4 (w_not (w_lt w_lit (w_len_list (w_arg rfl))))
  rw[List.length_map]at h5
  refine Nat.le_of_not_lt λq=> ?_
  have q':(n:Int)<((ns.length:Nat):Int):=by omega
  first
   | (rw[decide_eq_true q']at h5;exact absurd h5 (by decide))
   | (simp at h5;omega)
 cases hwl with
 | cons w1 w2 =>
  cases w2
  cases w1 with
  | list ho hall=>exact⟨_,_,ns,rfl,rfl,ho,iG ns _ hall,hlen⟩
theorem iI(l:OpenLaw)(args:List WData):l.row.toRowW.claim.post args (.bool true) args=true :=
 postW_of (r:=l.row.toRowW) (X:=(true == true))
  (show WShape.has [] (.bool true) .bool=true by first | rfl | decide | simp[WShape.has,WShape.arms,WShape.armsAll])
  (show(WTm.eq .res (.lit (.bool true))).value [] { args:=args,res:=some (.bool true),after:=args }=some (.bool (true == true))from w_eq_bool (w_res rfl) w_lit) rfl
theorem attach_call{l:OpenLaw}{n:Nat}{q:Program}{loose:List Str}{XP:(Str->Option Value)->Heap->Prop}{YP:World->Heap->Prop}{d:DefRec}
  (hn:l.most=some n) (hdf:d.params.defaults=[])
  (call:∀ (w:World) (s₀ s₁:Shared) (mg mb:Str->Option Value) (fa:Addr) (o:Obj) (pm cd doc:Value) (a:Addr) (vs:List Value) (ns:List Int),
   Ground q loose [] XP w s₀ mg mb s₁.heap->YP w s₁.heap →
   s₁.heap.get? fa=some o->o.data=.func (docDef d.name d.params d.body d.scope pm cd doc)->s₁.heap.CodeRec cd d.name->mg d.name=some (.ref fa) →
   s₁.heap.get? a=some { cls:=.type "list",data:=.seq vs.toArray }->IntsAre vs ns->ns.length<=n->s₁.gens= #[] →
   codeAny (model l.prog w) callerA (.call (.ref fa) ⟨[.ref a],[]⟩) (λr s'=>r=.ok (.ret (.bool true))/\OldK s₁.heap s'.heap/\s'.os=s₁.os/\AllBare s'.gens) s₁) :
  WalkO q loose XP YP l.row.toRowW d [] (λf vs=>PySem.call f vs):=by
 intro w s₀ s₁ mg mb G Y fa o pm cd doc dV kV ho hd hcd hD hmg hg args vals as hpre hlay hrd hwl hlo
 obtain rfl:dV=.none:=Dflts.none hD hdf
 obtain rfl:kV=.none:=Dflts.noKw hD
 obtain⟨a,vs,ns,rfl,rfl,hobj,hints,hlen⟩:=iH hn hpre hwl
 refine enter_call (codeAny_mono (call w s₀ s₁ mg mb fa o pm cd doc a vs ns G Y ho (fd_plain hd) hcd hmg hobj hints hlen hg) λr s' hq=> ?_)
 obtain⟨rfl,h2,h3,h4⟩:=hq
 exact⟨.inl ⟨.bool true,.bool true,[],rfl,λ_=>rfl,.bool true,iI l _,λ_=>⟨List.Pairwise.nil,λ_ hm=>(nomatch hm)⟩⟩,h2,h3,h4⟩
section
variable{prog:Program}{w:World}{A:Around}{E:Value->Shared->Prop}{s:Shared}{K:Frag}
def Ez(h:Heap)(L d:Addr):List (Addr × Obj):=(List.range h.objs.size).filterMap λa=>if a=L\/a=d then none else(h.get? a).map λo=>(a,o)
end
end Att
namespace L2
theorem OI:∀ {vs:List Value} {ns:List Int},IntsAre vs ns->Vals (ns.map V.int) vs
 | _,_,.nil=>.nil
 | _,_,.cons n t h=>.cons ⟨t,rfl⟩ (OI h)
def OJ(H:Hp):Prop:=∀ b,H b=none\/∃ o xs,H b=some (.frz o (.lst xs))
theorem iJ {P:Program} {w:World} {K:W.Frag} {mg mb:Str->Option Value} {CX:DV} {k:Nat} {fa a:Addr} {fd:FuncData} {x:Str} {sp:Sp} {s₁:Shared} {vs:List Value} {ns:List Int}
    (KX:K.In s₁.heap) (hns:s₁.heap.Ns mainGlobals mg) (hb:s₁.heap.Ns builtinsNs mb) (hbb:∀ x:Str,x≠"__name__"->mb x=bootBuiltins x) (hlim:s₁.heap.NoLimit) (hg:s₁.gens= #[])
    (ha:s₁.heap.get? a=some { cls:=.type "list",data:=.seq vs.toArray }) (hi:IntsAre vs ns) (hl:ns.length<=sizeLine) (hr:Room k callerA)
    (F:∀ base:Heap,K.In base->base.Ns mainGlobals mg->FnOk P w K mg base CX k fa fd [x] sp) (hbind:∀ (s:Shared) (u:Value),BindsTo s fd ⟨[u],[]⟩ [(x,u)])
    (hsp:∀ H:Hp,OJ H->SqL K H a (ns.map V.int)->sp [.ref a] H (λv _=>v=.bl true) λ_ _ _=>False)
    (hCX:∀ H e s',CX [] H s₁ (λ_ _ _=>False) e s'->False) :
    codeAny (model P w) callerA (.call (.ref fa) ⟨[.ref a],[]⟩) (λr s'=>r=.ok (.ret (.bool true))/\OldK s₁.heap s'.heap/\s'.os=s₁.os/\AllBare s'.gens) s₁:=by
  have rv:=OI hi
  have lenV:=hi.length
  have core:∀ H:Hp,OJ H->SqL K H a (ns.map V.int)->HOk P w H s₁.heap->(∀ b,H b≠none->b=a)->(H a≠none->K.lookup a=none) →
      codeAny (model P w) callerA (.call (.ref fa) ⟨[.ref a],[]⟩) (λr s'=>r=.ok (.ret (.bool true))/\OldK s₁.heap s'.heap/\s'.os=s₁.os/\AllBare s'.gens) s₁:=by
    intro H hO hS hok hA hK
    have base_of:∀ {b:Addr} {o:Obj},s₁.heap.get? b=some o->H b=none->(FH s₁.heap H).get? b=some o:=λe n=>dO e n
    have noA:∀ {b:Addr} {o:Obj} {es:Array DictEntry} {ep:Nat},s₁.heap.get? b=some o->o.data=.dict es ep->H b=none:=λ{b o es ep} e d=>by
      cases q:H b with
      | none=>rfl
      | some u =>
        have e':b=a:=hA b (by rw[q];simp)
        subst e'
        rw[ha]at e;cases e
        have d':Data.seq vs.toArray _=Data.dict es ep:=d
        cases d'
    have nsK:∀ {b:Addr} {m:Str->Option Value},s₁.heap.Ns b m->(FH s₁.heap H).Ns b m:=λ{b m} ⟨o,es,ep,e,d,r⟩=>⟨o,es,ep,base_of e (noA e d),d,r⟩
    have hKb:K.In (FH s₁.heap H):=λb o e=>base_of (KX b o e) (by
      cases q:H b with
      | none=>rfl
      | some u =>
        have e':b=a:=hA b (by rw[q];simp)
        subst e'
        rw[hK (by rw[q];simp)]at e;cases e)
    have hM:Mod K mg (FH s₁.heap H):=⟨hKb,nsK hns,⟨mb,nsK hb,hbb⟩,let ⟨mc,h1,h2⟩:=hlim;⟨mc,nsK h1,h2⟩⟩
    have e0:Env0 P w K mg (FH s₁.heap H) callerA [] s₁ H:=⟨rfl,hM,λb o e=>dP e,Nat.le_of_eq (dN _ _),trivial,λb hb=>absurd (show b∈([]:List Addr)from hb) (by simp),hok,.of_eq hg⟩
    refine codeAny_mono ((F _ hKb (nsK hns)).run callerA [] s₁ H ⟨[.ref a],[]⟩ [.ref a] [.ref a] _ _ hr e0 (hbind s₁ (.ref a)) (.cons rfl .nil) (hsp H hO hS)) λr s' h=> ?_
    cases r with
    | error e=>exact(hCX H e s' h).elim
    | ok fl =>
      cases fl with
      | next=>exact False.elim h
      | brk=>exact False.elim h
      | cont=>exact False.elim h
      | ret u =>
        obtain⟨v,H',os,bare,un,hok',r',q⟩:=h
        have q':v=.bl true:=q
        subst q'
        obtain rfl:u=Value.bool true:=r'
        refine⟨rfl,OldK.of_keep λb o e=> ?_,os,bare⟩
        cases q:H b with
        | none=>exact un.keep b o e q (by intro z;exact absurd (show b∈([]:List Addr)from z) (by simp)) (by simp)
        | some u =>
          rcases hO b with z | ⟨ob,xs,z⟩
          ·rw[q]at z;cases z
          · have z2:=un.frzs b ob _ z
            obtain⟨e1,_⟩:=hok b _ z
            obtain⟨e2,_⟩:=hok' b _ z2
            rw[e]at e1;cases e1
            exact e2
  cases hk:K.lookup a with
  | some o =>
    have e:=KX a o hk
    rw[ha]at e
    cases e
    refine core (λ_=>none) (λ_=>.inl rfl) (.inr ⟨_,vs.toArray,_,hk,rfl,rfl,rfl,by rw[List.size_toArray,lenV];exact hl,by simpa using rv⟩) (λb u z=>by have z':(none:Option HO)=some u:=z;cases z') (λb z=>absurd rfl z) λz=>absurd rfl z
  | none =>
    refine core (λb=>if b=a then some (.frz { cls:=.type "list",data:=.seq vs.toArray } (.lst (ns.map V.int)))else none) (λb=> ?_) (.inl (.inr ⟨{ cls:=.type "list",data:=.seq vs.toArray },if_pos rfl⟩)) (λb u z=> ?_) (λb z=> ?_) λ_=>hk
    · by_cases hb:b=a
      ·exact .inr ⟨_,_,if_pos hb⟩
      ·exact .inl (if_neg hb)
    · by_cases hb:b=a
      · have z':=(if_pos hb).symm.trans z
        cases z'
        subst hb
        exact⟨ha,by rw[List.length_map];exact hl,vs,_,rv,ha⟩
      · have z':=(if_neg hb).symm.trans z
        cases z'
    · by_cases hb:b=a
      ·exact hb
      ·exact absurd (if_neg hb) z
end L2
namespace L2
abbrev Fb{K:W.Frag}{h:Heap}(_:K.In h):W.Frag:=K
theorem walk_of{l:W.OpenLaw}{n k:Nat}{q:Program}{loose:List Str}{XP:(Str->Option Value)->Heap->Prop}{YP:World->Heap->Prop}{d:DefRec}{K:Params->W.Frag}{CX:World->DV}{sp:World->Sp}{x:Str}
  (hn:l.most=some n) (hn2:n<=sizeLine) (hdf:d.params.defaults=[]) (hr:Room k callerA)
  (hY:∀ (w:World) (h:Heap),YP w h->(K w.params).In h)
  (F:∀ (w:World) (mg:Str->Option Value) (fa:Addr) (h:Heap),(K w.params).In h->h.Ns mainGlobals mg->mg d.name=some (.ref fa) →
   ∃ fd:FuncData,(∀ (s:Shared) (u:Value),BindsTo s fd ⟨[u],[]⟩ [(x,u)]) ∧
    ∀ base:Heap,(K w.params).In base->base.Ns mainGlobals mg->FnOk l.prog w (K w.params) mg base (CX w) k fa fd [x] (sp w))
  (hsp:∀ (w:World) (H:Hp) (a:Addr) (ns:List Int),ns.length<=n->OJ H->SqL (K w.params) H a (ns.map V.int)->sp w [.ref a] H (λv _=>v=.bl true) λ_ _ _=>False)
  (hCX:∀ (w:World) (H:Hp) (s:Shared) (e:Value) (s':Shared),CX w [] H s (λ_ _ _=>False) e s'->False) :
  W.WalkO q loose XP YP l.row.toRowW d [] (λf vs=>PySem.call f vs):=by
 refine Att.attach_call hn hdf λw s₀ s₁ mg mb fa o pm cd doc a vs ns G Y ho hd hcd hmg hobj hints hlen hg=> ?_
 have KX:=hY w _ Y
 obtain⟨fd,hb,hF⟩:=F w mg fa _ KX G.T.g hmg
 exact iJ KX G.T.g G.T.b G.T.builtins G.T.nolimit hg hobj hints (Nat.le_trans hlen hn2) hr hF hb (λH hO hS=>hsp w H a ns hlen hO hS) λH e s'=>hCX w H s₁ e s'
end L2
namespace L2
def CL(s:Stmt)(j:Nat):Stmt:=match s with
 | .ClassDef _ _ _ body _ _ _ _ _ _ _=>body.getD j (.Pass ⟨0,0,0,0⟩)
 | _=>.Pass ⟨0,0,0,0⟩
def BD(s:Stmt):Arguments:=match s with
 | .FunctionDef _ a _ _ _ _ _ _ _ _=>a
 | _=>{ posonlyargs:=[],args:=[],vararg:=none,kwonlyargs:=[],kw_defaults:=[],kwarg:=none,defaults:=[] }
def A9(s:Stmt):List Stmt:=match s with
 | .FunctionDef _ _ b _ _ _ _ _ _ _=>b
 | _=>[]
def AO(s:Stmt):Scope:=match s with
 | .FunctionDef _ _ _ _ _ _ sc _ _ _=>sc
 | _=>{ kind:=.function,names:=[],isGenerator:=false,isCoroutine:=false }
abbrev U8:DV:=λ_ _ _ _ _ _=>False
abbrev E0:XK:=λ_ _ _=>False
structure Fun(K:W.Frag)(x qual:Str)(st:Stmt)(f:Addr)(fd:FuncData):Prop where
 ex:∃ (oc:Value) (od:Option Addr) (kV doc pm:Value) (an:Option Addr) (cdv ct:Value) (osl:Array (Option Value)),
  fd=W.fnOf x qual (BD st) (A9 st) (AO st) .none kV doc pm an cdv ct/\K.lookup f=some ⟨oc,od,.func fd,osl⟩/\W.codeIn K cdv qual=true
 kp:W.keepIn K (.ref f)=true
section
variable{P:Program}{w:World}{K:W.Frag}{mg:Str->Option Value}{base:Heap}
theorem Fun.ok{x qual:Str}{st:Stmt}{f:Addr}{fd:FuncData}{N ps:List Str}{k:Nat}{sp:Sp}(F:Fun K x qual st f fd)(S:FnScope N ps (AO st))(len:∀ vs H Q E,sp vs H Q E->vs.length=ps.length)
  (hbody:∀ (cdv:Value) (A:Around) (outer:List Env) (s:Shared) (H:Hp) (vs:List V) (Q:VK) (E:XK),Room k (A.deeper (envOfC qual (AO st) s.heap.objs.size f cdv))->sp vs H Q E →
   ∃ t,PSs (E3 U8 P w K mg base N qual (AO st) f cdv A outer s H E).nox (A9 st) t/\t { nx:=λ_ H'=>Q .non H',rt:=Q } (A8 N vs) H):FnOk P w K mg base U8 (k+1) f fd ps sp:=by
 obtain⟨oc,od,kV,doc,pm,an,cdv,ct,osl,rfl,lk,hcd⟩:=F.ex
 refine UI lk hcd S len λA outer s H vs Q E hr hsp=> ?_
 obtain⟨t,h,q⟩:=hbody cdv A outer s H vs Q E hr hsp
 exact⟨t,h.nox,q⟩
theorem Fun.binds{x qual:Str}{st:Stmt}{f:Addr}{fd:FuncData}{ps:List Str}(F:Fun K x qual st f fd)
  (h:∀ (kV doc pm:Value) (an:Option Addr) (cdv ct:Value) (us:List Value),us.length=ps.length->bindArgs (W.fnOf x qual (BD st) (A9 st) (AO st) .none kV doc pm an cdv ct) ⟨us,[]⟩=pure (ps.zip us)):Binds K fd ps []:=by
 obtain⟨oc,od,kV,doc,pm,an,cdv,ct,osl,rfl,lk,hcd⟩:=F.ex
 exact .all (h kV doc pm an cdv ct)
theorem BH{x qual:Str}{st:Stmt}{f:Addr}{oc:Value}{od an:Option Addr}{osl:Array (Option Value)}{kV doc pm cdv ct:Value}(l:K.lookup f=some ⟨oc,od,.func (W.fnOf x qual (BD st) (A9 st) (AO st) .none kV doc pm an cdv ct),osl⟩)
  (c:W.codeIn K cdv qual=true) (k:W.keepIn K (.ref f)=true):Fun K x qual st f (W.fnOf x qual (BD st) (A9 st) (AO st) .none kV doc pm an cdv ct):=⟨⟨oc,od,kV,doc,pm,an,cdv,ct,osl,rfl,l,c⟩,k⟩
end
theorem DJ{A:Around}{k:Nat}(hr:Room k A):A.units+1<cLine:=Nat.lt_of_le_of_lt (Nat.add_le_add_left (by decide:1<=64) _) hr.units
section
variable{X:Cx}
end
def Same(H H':Hp):Prop:=∀ b o,H b=some o->H' b=some o
theorem Same.refl(H:Hp):Same H H:=λ_ _ h=>h
theorem Same.trans{H H1 H2:Hp}(a:Same H H1)(b:Same H1 H2):Same H H2:=λc o h=>b c o (a c o h)
theorem Same.free{H H':Hp}(e:Same H H'){l:Addr}(h:H' l=Option.none):H l=Option.none:=by
 cases q:H l with
 | none=>rfl
 | some o =>
  rw[e l o q]at h
  cases h
theorem Same.seq{K:W.Frag}{H H':Hp}{a:Addr}{xs:List V}(e:Same H H')(h:SqL K H a xs):SqL K H' a xs:=by
 rcases h with(h | ⟨o,h⟩) | h
 ·exact .inl (.inl (e _ _ h))
 ·exact .inl (.inr ⟨o,e _ _ h⟩)
 ·exact .inr h
section
variable{κ :Type}[DecidableEq κ]
theorem iK{kvs:List (κ × V)}{k: κ}(h:BC kvs k=none):¬ k∈kvs.map (·.1):=by
 intro m
 obtain⟨p,hp,e⟩:=List.mem_map.mp m
 have q:(kvs.any λkv=>decide (kv.1=k))=true:=List.any_eq_true.mpr ⟨p,hp,decide_eq_true e⟩
 rw[GU,h]at q
 exact absurd q (by simp)
theorem U9:∀ {l:List κ} {k: κ},l.Nodup->¬ k∈l->(l++[k]).Nodup
 | [],k,_,_=>by simp
 | a::r,k,h,hk=>by
  obtain⟨h1,h2⟩:=List.nodup_cons.mp h
  show(a::(r++[k])).Nodup
  refine List.nodup_cons.mpr ⟨λm=> ?_,U9 h2 λm=>hk (List.mem_cons.mpr (Or.inr m))⟩
  rcases List.mem_append.mp m with q | q
  ·exact h1 q
  ·exact hk (List.mem_cons.mpr (Or.inl (List.mem_singleton.mp q).symm))
theorem iL{kvs:List (κ × V)}{k: κ}(v:V)(hn:(kvs.map (·.1)).Nodup)(h:BC kvs k=none):((CA kvs k v).map (·.1)).Nodup:=by
 rw[U0 v h,List.map_append]
 exact U9 hn (iK h)
theorem iM{p: κ × V}{r:List (κ × V)}{k: κ}(e:p.1=k):D5 (p::r) k=D5 r k:=by
 unfold D5
 rw[List.filter_cons,if_neg (by simp[e])]
theorem iN{p: κ × V}{r:List (κ × V)}{k: κ}(e:¬ p.1=k):D5 (p::r) k=p::D5 r k:=by
 unfold D5
 rw[List.filter_cons,if_pos (by simp[e])]
end
end L2
namespace L2
theorem OK{env:Env}:∀ (names:List (Str × NameKind)) (cs:List (Str × Addr)),
  (∀ x∈names,x.2=.free->∃ c,env.cells.lookup x.1=some c)->(∀ x c,cs.lookup x=some c->env.cells.lookup x=some c) →
  ∃ cl,(forIn names cs λx r=>(if(x.2 == NameKind.free)=true then do let a ← cellOf env x.1;pure (ForInStep.yield ((x.1,a)::r))else pure (ForInStep.yield r):Sem (ForInStep (List (Str × Addr)))))=pure cl ∧
   (∀ x c,cl.lookup x=some c->env.cells.lookup x=some c)/\(∀ x,(cs.lookup x).isSome=true->(cl.lookup x).isSome=true) ∧
   ∀ x∈names,x.2=.free->(cl.lookup x.1).isSome=true
 | [],cs,_,h=>⟨cs,rfl,h,λ_ z=>z,λ_ z=>nomatch z⟩
 | (n,k)::r,cs,hf,h=>by
  by_cases hk:k=.free
  ·subst hk
   obtain⟨c,hc⟩:=hf (n,.free) List.mem_cons_self rfl
   obtain⟨cl,e,h1,h2,h3⟩:=OK r ((n,c)::cs) (λx hx=>hf x (List.mem_cons_of_mem _ hx)) (λx c' hx=>by
    by_cases hxn:x=n
    ·subst hxn;simp only[List.lookup_cons,beq_self_eq_true]at hx;cases hx;exact hc
    ·have:(x == n)=false:=beq_eq_false_iff_ne.mpr hxn
     simp only[List.lookup_cons,this]at hx;exact h x c' hx)
   refine⟨cl,?_,h1,λx hx=>h2 x ?_,λx hx hxf=> ?_⟩
   ·rw[List.forIn_cons]
    show((if(NameKind.free == NameKind.free)=true then _ else _) >>= _)=_
    rw[if_pos (show(NameKind.free == NameKind.free)=true from rfl)]
    unfold cellOf
    show(((match env.cells.lookup n with | some a=>pure a | none=>_) >>= _) >>= _)=_
    rw[hc]
    exact e
   ·by_cases hxn:x=n
    ·subst hxn;simp
    ·have:(x == n)=false:=beq_eq_false_iff_ne.mpr hxn
     simp only[List.lookup_cons,this];exact hx
   ·rcases List.mem_cons.mp hx with rfl | hx
    ·exact h2 n (by simp)
    ·exact h3 x hx hxf
  ·obtain⟨cl,e,h1,h2,h3⟩:=OK r cs (λx hx=>hf x (List.mem_cons_of_mem _ hx)) h
   refine⟨cl,?_,h1,h2,λx hx hxf=> ?_⟩
   ·rw[List.forIn_cons]
    have hb:(k == NameKind.free)=false:=by simpa using hk
    show((if(k == NameKind.free)=true then _ else _) >>= _)=_
    rw[if_neg (by simp[hb])]
    exact e
   ·rcases List.mem_cons.mp hx with rfl | hx
    ·exact absurd hxf hk
    ·exact h3 x hx hxf
theorem VA{env:Env}{scope:Scope}(hf:∀ x∈scope.names,x.2=.free->∃ c,env.cells.lookup x.1=some c) :
  ∃ cl,closureFor scope env=pure cl/\(∀ x c,cl.lookup x=some c->env.cells.lookup x=some c)/\∀ x∈scope.names,x.2=.free->(cl.lookup x.1).isSome=true:=by
 obtain⟨cl,e,h1,_,h3⟩:=OK (env:=env) scope.names [] hf (λx c h=>by simp at h)
 refine⟨cl,?_,h1,h3⟩
 unfold closureFor
 show(forIn scope.names ([]:List (Str × Addr)) _ >>= _)=_
 have:(forIn scope.names ([]:List (Str × Addr)) λx r=>(if(x.2 == NameKind.free)=true then do let a ← cellOf env x.1;pure (ForInStep.yield ((x.1,a)::r))else pure (ForInStep.yield r):Sem (ForInStep (List (Str × Addr))))) >>=(λr=>(pure r:Sem _))=(pure cl:Sem _):=by rw[e];rfl
 exact this
theorem VB{env:Env}:∀ {names:List (Str × NameKind)} {x:Str},names.lookup x=some .free →
  (names.map λ(n,k)=>if(k == NameKind.free && env.scope.kind == .function && env.kindOf n == some .cell)then(n,NameKind.cell)else(n,k)).lookup x=some .cell ∨
  (names.map λ(n,k)=>if(k == NameKind.free && env.scope.kind == .function && env.kindOf n == some .cell)then(n,NameKind.cell)else(n,k)).lookup x=some .free
 | [],_,h=>by simp at h
 | (n,k)::r,x,h=>by
  by_cases hx:x=n
  ·subst hx
   simp only[List.lookup_cons,beq_self_eq_true]at h
   cases h
   show List.lookup x ((if _ then(x,NameKind.cell)else(x,NameKind.free))::_)=_\/List.lookup x ((if _ then(x,NameKind.cell)else(x,NameKind.free))::_)=_
   split
   ·exact .inl (by simp)
   ·exact .inr (by simp)
  ·have hb:(x == n)=false:=beq_eq_false_iff_ne.mpr hx
   simp only[List.lookup_cons,hb]at h
   have ih:=VB (env:=env) h
   show List.lookup x ((if _ then(n,NameKind.cell)else(n,k))::_)=_\/List.lookup x ((if _ then(n,NameKind.cell)else(n,k))::_)=_
   split<;>(simp only[List.lookup_cons,hb];exact ih)
theorem VC{env:Env}:∀ {names:List (Str × NameKind)} {x:Str},
  ((names.map λ(n,k)=>if(k == NameKind.free && env.scope.kind == .function && env.kindOf n == some .cell)then(n,NameKind.cell)else(n,k)).lookup x=some .cell ∨
  (names.map λ(n,k)=>if(k == NameKind.free && env.scope.kind == .function && env.kindOf n == some .cell)then(n,NameKind.cell)else(n,k)).lookup x=some .free)->(x,NameKind.free)∈names\/(x,NameKind.cell)∈names
 | [],_,h=>by simp at h
 | (n,k)::r,x,h=>by
  by_cases hx:x=n
  ·subst hx
   have h:List.lookup x ((if(k == NameKind.free && env.scope.kind == .function && env.kindOf x == some .cell)=true then(x,NameKind.cell)else(x,k))::_)=some .cell\/List.lookup x ((if(k == NameKind.free && env.scope.kind == .function && env.kindOf x == some .cell)=true then(x,NameKind.cell)else(x,k))::_)=some .free:=h
   split at h
   ·rename_i hc
    rw[Bool.and_eq_true,Bool.and_eq_true]at hc
    have:k=.free:=by simpa using hc.1.1
    subst this
    exact .inl List.mem_cons_self
   ·simp only[List.lookup_cons,beq_self_eq_true]at h
    rcases h with h | h
    ·cases h;exact .inr List.mem_cons_self
    ·cases h;exact .inl List.mem_cons_self
  ·have hb:(x == n)=false:=beq_eq_false_iff_ne.mpr hx
   have h:List.lookup x ((if(k == NameKind.free && env.scope.kind == .function && env.kindOf n == some .cell)=true then(n,NameKind.cell)else(n,k))::_)=some .cell\/List.lookup x ((if(k == NameKind.free && env.scope.kind == .function && env.kindOf n == some .cell)=true then(n,NameKind.cell)else(n,k))::_)=some .free:=h
   have h':=h
   split at h'
   all_goals
    simp only[List.lookup_cons,hb]at h'
    exact(VC h').imp (List.mem_cons_of_mem _) (List.mem_cons_of_mem _)
theorem DK{a b:Addr}{n:Nat}(h:a<n)(h2:n<=b):a≠b:=Nat.ne_of_lt (Nat.lt_of_lt_of_le h h2)
def Cx.block(X:Cx)(pins:List (Addr × Obj))(s:Shared)(H:Hp)(Nc:List Str)(scope:Scope)(cl:List (Str × Addr))(C:Addr)(fp:List Addr):Cx where
 prog:=X.prog
 w:=X.w
 K:=X.K
 mg:=X.mg
 base:=X.base
 A:=X.A
 N:=Nc
 s₀:=s
 H₀:=H
 env:=compEnvC scope cl C X.env
 outer:=X.stack
 stack:=X.stack
 ex:=fp
 fn:=λ_=>false
 calm:=X.calm
 pn:=X.pn++pins
 xe:=λ_ _=>False
structure KM(X:Cx)(scope:Scope)(tn cn:List Str)(cap:List Nat):Prop where
 kind:scope.kind=.function
 nocell:∀ y∈scope.names,y.2≠.cell
 names:∀ y∈scope.names,y.2=.local->scope.names.lookup y.1=some .local
 free:∀ y∈scope.names,y.2=.free->X.env.kindOf y.1=some .cell\/X.env.kindOf y.1=some .free
 drawn:∀ x∈cn,scope.names.lookup x=some .free
 caps:cap.map (λi=>X.N[i]?)=cn.map some
def GH(k:Nat)(cap:List Nat)(σ:St):St:=List.replicate k none++cap.map λi=>(σ[i]?).join
theorem HOk.track{P:Program}{w:World}{H:Hp}{h:Heap}{a:Addr}{o:HO}(x:HOk P w H h)(hn:H a=none)(new:ObjOk P w (upd H a o) h a o):HOk P w (upd H a o) h:=λb u e=>by
 by_cases hb:b=a
 ·subst hb;rw[AK]at e;cases e;exact new
 ·rw[AH hb]at e
  refine(x b u e).stay (λ_ _ _ q=>q) (λc q=> ?_) λc xs q=> ?_
  ·rw[AH (AY q hn)];exact q
  ·rw[AH (AY q hn)];exact q
section
variable{X:Cx}{pins:List (Addr × Obj)}{σ:St}{H:Hp}{s:Shared}
theorem Inv.pinlt(I:Inv X pins σ H s){p:Addr × Obj}(hp:p∈X.pn++pins):p.1<s.heap.objs.size:=Heap.lt_size (I.pin p hp).1
theorem Inv.stkne(I:Inv X pins σ H s){b:Addr}(h1:b≠X.env.locals)(h2:b∉X.fs):b∉CP X.stack:=λz=>(List.mem_cons.mp (I.stkSub b z)).elim h1 h2
theorem Inv.stklt(I:Inv X pins σ H s){b:Addr}(h:b∈CP X.stack):b<s.heap.objs.size:=by
 obtain⟨_,o,ho,_⟩:=I.stack.mem h
 exact Heap.lt_size ho
theorem Inv.block{scope:Scope}{tn cn:List Str}{cap:List Nat}{cl:List (Str × Addr)}{C:Addr}{fp:List Addr}{pins':List (Addr × Obj)}{s1:Shared}(I:Inv X pins σ H s)(S:KM X scope tn cn cap)
  (hcl:∀ x c,cl.lookup x=some c->X.env.cells.lookup x=some c) (hcl2:∀ x∈scope.names,x.2=.free->(cl.lookup x.1).isSome=true)
  (hf:∀ b∈fp,FpOk X pins H b) (hfl:∀ b∈fp,b<s.heap.objs.size) (hC:s.heap.objs.size<=C) (k:∀ b o,s.heap.get? b=some o->s1.heap.get? b=some o)
  (hos:s1.os=s.os) (hg:s1.gens=s.gens) (hns:∃ m,s1.heap.Ns C m)
  (hp:∀ p∈pins',s1.heap.get? p.1=some p.2/\H p.1=none/\p.1≠C/\p.1∉CP X.stack/\∀ v,p.2.data≠.cell v) :
  Inv (X.block pins s H (tn++cn) scope cl C fp) pins' (GH tn.length cap σ) H s1:=by
 have ok:(X.block pins s H (tn++cn) scope cl C fp).Ok:=by
  refine⟨I.ok.mod,S.kind,I.ok.glob,I.ok.blt,hC,λx y c h1 h2=>I.ok.inj x y c (hcl x c h1) (hcl y c h2),λx hx=> ?_,λx c z _=>(by cases z),I.ok.hd,I.ok.frames,.inl rfl,λb hb=>⟨?_,λx c e=>(hf b hb).2.2.2.2.1 x c (hcl x c e)⟩,I.bs,Nat.le_trans I.ok.bsz I.sz,λb o e hb=> ?_,λb hb=>I.stkne (hf b hb).2.1 (hf b hb).2.2.1,I.stack,I.stkFree⟩
  ·rcases VC (env:=X.env) hx with z | z
   ·exact Option.isSome_iff_exists.mp (hcl2 _ z rfl)
   ·exact absurd rfl (S.nocell _ z)
  ·exact Nat.ne_of_lt (Nat.lt_of_lt_of_le (hfl b hb) hC)
  ·rcases(hf b hb).2.2.2.1 with z | z
   ·exact I.ok.noex b o e z
   ·have h1:b<X.base.objs.size:=Heap.lt_size e
    exact absurd (Nat.lt_of_lt_of_le h1 (Nat.le_trans I.ok.bsz z)) (Nat.lt_irrefl _)
 refine⟨ok,hos,by rw[hg];exact I.bare,Un.kept k,?_,λx c e=> ?_,I.hok.fresh hC,λx c e=>I.freeC x c (hcl x c e),λp hp'=> ?_,I.hok.kept k,?_⟩
 ·obtain⟨m,hm⟩:=hns
  refine⟨m,hm,λi x v h1 h2 h3=> ?_⟩
  have hi:tn.length<=i:=by
   rcases Nat.lt_or_ge i tn.length with z | z
   ·unfold GH at h2
    rw[List.getElem?_append_left (by simpa using z),List.getElem?_replicate]at h2
    split at h2<;>cases h2
   ·exact z
  unfold GH at h2
  rw[List.getElem?_append_right (by simpa using hi),List.length_replicate,List.getElem?_map]at h2
  have h1':cn[i - tn.length]? =some x:=by
   have:(tn++cn)[i]? =some x:=h1
   rwa [List.getElem?_append_right hi]at this
  cases hq:cap[i - tn.length]? with
  | none=>rw[hq]at h2;cases h2
  | some j =>
   rw[hq]at h2
   have hj:X.N[j]? =some x:=by
    have:=congrArg (λl=>l[i - tn.length]?) S.caps
    simp only[List.getElem?_map,hq,h1',Option.map_some]at this
    exact Option.some.inj this
   have hv:σ[j]? =some (some v):=by
    cases hs:σ[j]? with
    | none=>simp[hs]at h2
    | some y=>simp only[Option.map_some,hs,Option.join_some]at h2;cases h2;rfl
   have hxf:(x,NameKind.free)∈scope.names:=PySem.mem_of_lookup (S.drawn x (List.mem_of_getElem? h1'))
   have hk:=S.free _ hxf rfl
   obtain⟨m0,_,hl0⟩:=I.loc
   obtain⟨u,r,q⟩:=hl0 j x v hj hv (hk.elim (λz=>.inr (.inl z)) λz=>.inr (.inr z))
   refine⟨u,r,.inr ⟨VB (S.drawn x (List.mem_of_getElem? h1')),?_⟩⟩
   rcases q with⟨kl,_⟩ | ⟨_,c,hc,z⟩
   ·have kl':X.env.kindOf x=some .local:=kl
    rcases hk with hk | hk<;>(rw[kl']at hk;cases hk)
   ·obtain⟨c',hc'⟩:=Option.isSome_iff_exists.mp (hcl2 _ hxf rfl)
    have:=hcl _ _ hc'
    rw[hc]at this
    cases this
    exact⟨c,hc',z.keeps k⟩
 ·obtain⟨v,z⟩:=I.cell x c (hcl x c e)
  exact⟨v,z.keeps k⟩
 ·rcases List.mem_append.mp hp' with z | z
  ·obtain⟨e,n,ne,nf,d⟩:=I.pin p z
   exact⟨k _ _ e,n,Nat.ne_of_lt (Nat.lt_of_lt_of_le (Heap.lt_size e) hC),I.stkne ne nf,d⟩
  ·exact hp p z
 ·unfold GH
  show _=(tn++cn).length
  have:=congrArg List.length S.caps
  simp only[List.length_map]at this
  simp[this]
end
def G0:TT:=λ_ H Q=>Q true H
def KN(X:Cx)(ifs:List Expr)(t:TT):Prop :=
 ∀ (pins:List (Addr × Obj)) (s:Shared) (σ:St) (H:Hp) (Q:Bool->Hp->Prop),Inv X pins σ H s->t σ H Q →
  wpAny (model X.prog X.w) X.A (forIn ifs true λc r=>if r=true then do let ok ← isTrue c X.env (eval c X.env);pure (ForInStep.yield ok)else pure (ForInStep.yield r)) (TP X pins σ Q) X.xe s
theorem OL{X:Cx}:KN X [] G0:=λpins s σ H Q I h=>wpAny_tests_nil ⟨H,I,h⟩
theorem VD{X:Cx}{c:Expr}{t:TT}(h:PT X c t):KN X [c] t:=λpins s σ H Q I q=>wpAny_tests_one (h pins s σ H Q I q)
theorem iO {prog:Program} {w:World} {A:Around} {R:Result->Shared->Prop} {s:Shared} {elt target iter:Expr} {ifs:List Expr} {scope:Scope} {pos:Pos} {it acc:Value} {env:Env} (Jn:Nat->Shared->Prop)
    (turn:∀ n s,Jn n s->wpAny (model prog w) A (pyNext it) (λr s₁=>match r with
      | none=>R (.ok .next) s₁
      | some v=>wpAny (model prog w) A (letOwnedTupleGo target it v) (λ_ s₂=>wpAny (model prog w) A (assign target env v) (λ_ s₃ =>
          wpAny (model prog w) A (forIn ifs true λc r=>if r=true then do let ok ← isTrue c env (eval c env);pure (ForInStep.yield ok)else pure (ForInStep.yield r)) (λok s₄ =>
            if ok=true then wpAny (model prog w) A (eval elt env) (λx s₅ =>
              wpAny (model prog w) A (call (.builtin "list.append") [acc,x]) (λ_ s₆=>∃ m,m<n/\Jn m s₆) (λ_ _=>False) s₅) (λ_ _=>False) s₄
            else ∃ m,m<n/\Jn m s₄) (λ_ _=>False) s₃) (λ_ _=>False) s₂) (λ_ _=>False) s₁) (λ_ _=>False) s)
    (n:Nat) (h:Jn n s):codeAny (model prog w) A (.compLoop (.ListComp elt [⟨target,iter,ifs,0⟩] scope pos) 0 it acc env) R s:=by
  refine codeAny_loop rfl Jn (λn' s' hJ=> ?_) n h
  show wpAny _ A ((compTurn (.ListComp elt [⟨target,iter,ifs,0⟩] scope pos) 0 it acc env).onRaise (λx'=>do noteFrame x' env;theTreesLotGoes x')) _ _ s'
  refine wpAny_noted (wpAny_noRaise ?_)
  rw[compTurn_list]
  refine wpAny_bind (wpAny_standAt (wpAny_bind (AM (turn n' s' hJ) λr s₁ h₁=> ?_)))
  cases r with
  | none=>exact wpAny_pure h₁
  | some v =>
    refine wpAny_bind (AM h₁ λ_ s₂ h₂=> ?_)
    refine wpAny_bind (AM h₂ λ_ s₃ h₃=>wpAny_bind (AM h₃ λok s₄ h₄=> ?_))
    cases ok with
    | false=>exact wpAny_pure ⟨rfl,h₄⟩
    | true=>exact wpAny_bind (wpAny_bind (AM h₄ λx' s₅ h₅=>wpAny_bind (AM h₅ λ_ s₆ h₆=>wpAny_pure (wpAny_pure ⟨rfl,h₆⟩))))
def E5(wi:TI)(g:TG)(tt:TT)(te:TE)(k:Nat)(cap:List Nat):TE:=λσ H Q=>wi σ H λJ H1 =>
 ∃ W:Nat->Nat->St->List V->Hp->Prop,(∃ m,W 0 m (GH k cap σ) [] H1)/\∀ i m σ' ys H,W i m σ' ys H →
  (J.stop i H/\∀ p,H p=none->Q (.ref p) (upd H p (.lst ys))) ∨
  (J.go i H/\ys.length<sizeLine/\∀ x H',J.yld i H x H'->g x σ' H' λσ2 H2=>tt σ2 H2 λb H3 =>
   if b=true then ∃ N:VK,(∀ y H4,N y H4->∃ m',m'<m/\W (i+1) m' σ2 (ys++[y]) H4)/\te σ2 H3 N else ∃ m',m'<m/\W (i+1) m' σ2 ys H3)
structure CompDone(X:Cx)(fp:List Addr)(H:Hp)(s:Shared)(Q:VK)(acc:Value)(C:Addr)(r:Result)(s':Shared):Prop where
 ok:r=.ok .next
 ex:∃ (D:Addr) (ys:List V) (its:List Value) (n:Nat) (H':Hp),acc=.ref D/\Vals ys its/\ys.length<=sizeLine/\s'.heap.get? D=some { cls:=.type "list",data:=.seq its.toArray n }/\s.heap.objs.size<=D/\D≠C/\H' D=none/\H' C=none ∧
  (∃ m,s'.heap.Ns C m)/\Un (CP X.stack) fp H H' s.heap s'.heap/\HOk X.prog X.w H' s'.heap/\∀ p,H' p=none->Q (.ref p) (upd H' p (.lst ys))
 ge:s.heap.objs.size<=C
 os:s'.os=s.os
 bare:AllBare s'.gens
section
variable{X:Cx}{pins:List (Addr × Obj)}{σ:St}{H:Hp}{s:Shared}
theorem VE {tg iter elt:Expr} {ifs:List Expr} {scope:Scope} {pos:Pos} {g:TG} {tt:TT} {te:TE} {tn cn:List Str} {cap:List Nat} {cl:List (Str × Addr)} {it:Addr} {fp:List Addr} {tn':Nat->Heap->Prop} {J:It} {Q:VK} {E:Value->Shared->Prop}
    (I:Inv X pins σ H s) (S:KM X scope tn cn cap) (hc:X.calm=true)
    (hcl:∀ x c,cl.lookup x=some c->X.env.cells.lookup x=some c) (hcl2:∀ x∈scope.names,x.2=.free->(cl.lookup x.1).isSome=true)
    (T:HZ X.prog X.w X.K tg J fp it tn') (st:tn' 0 s.heap) (hf:∀ b∈fp,FpOk X pins H b)
    (hg:∀ C,PG (X.block pins s H (tn++cn) scope cl C fp) tg g) (ht:∀ C,KN (X.block pins s H (tn++cn) scope cl C fp) ifs tt) (he:∀ C,PE (X.block pins s H (tn++cn) scope cl C fp) elt te)
    (W:Nat->Nat->St->List V->Hp->Prop) {m0:Nat} (w0:W 0 m0 (GH tn.length cap σ) [] H)
    (step:∀ i m σ' ys H,W i m σ' ys H →
      (J.stop i H/\∀ p,H p=none->Q (.ref p) (upd H p (.lst ys))) ∨
      (J.go i H/\ys.length<sizeLine/\∀ x H',J.yld i H x H'->g x σ' H' λσ2 H2=>tt σ2 H2 λb H3 =>
        if b=true then ∃ N:VK,(∀ y H4,N y H4->∃ m',m'<m/\W (i+1) m' σ2 (ys++[y]) H4)/\te σ2 H3 N else ∃ m',m'<m/\W (i+1) m' σ2 ys H3)) :
    wpAny (model X.prog X.w) X.A (newList []) (λacc s₃=>wpAny (model X.prog X.w) X.A (newFunctionEnv scope X.env.globals cl [] X.env.qual none .none (some X.env)) (λcenv s₄ =>
      codeAny (model X.prog X.w) X.A (.compStart (.ListComp elt [⟨tg,iter,ifs,0⟩] scope pos) 0 (.ref it) acc { cenv with scope:=relabel scope X.env }) (CompDone X fp H s Q acc cenv.locals) s₄) E s₃) E s:=by
  refine wpAny_newObj_type (wpAny_newFunctionEnv S.nocell (by intro y hy;simp at hy) (λh₁ hns₁ hsb₁=> ?_) S.kind)
  dsimp only at hns₁ hsb₁ ⊢
  generalize hH2:s.heap.push { cls:=.type "list",dict:=none,data:=.seq ([]:List Value).toArray }=H2 at hns₁ hsb₁ ⊢
  have hCs:H2.objs.size=s.heap.objs.size+1:=by rw[<-hH2,Heap.size_push]
  generalize hCe:H2.objs.size=C at hns₁ hsb₁ ⊢
  have hC:C=s.heap.objs.size+1:=hCe.symm.trans hCs
  generalize hD:s.heap.objs.size=D at *
  have hDC:D≠C:=by rw[hC];exact Nat.ne_of_lt (Nat.lt_succ_self _)
  have old:∀ b o,s.heap.get? b=some o->h₁.get? b=some o:=λb o e=>by
    have hb:b<D:=by rw[<-hD];exact Heap.lt_size e
    have hbC:b≠C:=DK hb (by rw[hC];exact Nat.le_succ _)
    exact hsb₁.extBut b o hbC (Heap.get?_push_of_some _ (hH2 ▸ Heap.get?_push_of_some _ e))
  have hDo:h₁.get? D=some { cls:=.type "list",data:=.seq ([]:List Value).toArray }:=by
    refine hsb₁.extBut _ _ hDC (Heap.get?_push_of_some _ ?_)
    rw[<-hH2,<-hD]
    exact Heap.get?_push_size _ rfl
  have hfl:∀ b∈fp,b<s.heap.objs.size:=λb hb=>by
    obtain⟨o,e,_⟩:=T.obj 0 _ st b hb
    exact Heap.lt_size e
  have hDn:H D=none:=by rw[<-hD];exact I.hok.fresh (Nat.le_refl _)
  have hDs:D∉CP X.stack:=λz=>DK (I.stklt z) (Nat.le_of_eq hD) rfl
  have I0:Inv (X.block pins s H (tn++cn) scope cl C fp) [(D,{ cls:=.type "list",data:=.seq ([]:List Value).toArray 0 })] (GH tn.length cap σ) H { s with heap:=h₁,toks:=s.toks+([]:List (Str × Value)).length } :=
    I.block S hcl hcl2 hf hfl (by omega) old rfl rfl ⟨_,hns₁⟩ λp hp=>by
      rw[List.mem_singleton]at hp
      subst hp
      exact⟨hDo,hDn,hDC,hDs,λv z=>nomatch z⟩
  have fpok:∀ {H':Hp} {o:Obj},(∀ b∈fp,H' b=none)->∀ b∈fp,FpOk (X.block pins s H (tn++cn) scope cl C fp) [(D,o)] H' b:=λ{H' o} hn b hb=>by
    obtain⟨_,f1,f2,f3,f4,f5⟩:=hf b hb
    have hbl:=hfl b hb
    refine⟨hn b hb,?_,I.stkne f1 f2,.inl hb,λx c e=>f4 x c (hcl x c e),λp hp=> ?_⟩
    ·exact DK hbl (by rw[hD,hC];exact Nat.le_succ _)
    · rcases List.mem_append.mp hp with z | z
      ·exact f5 p z
      ·rw[List.mem_singleton]at z;subst z;exact Ne.symm (DK hbl (Nat.le_of_eq hD))
  have st1:tn' 0 h₁:=T.keep _ _ _ st λb _ o e=>old b o e
  have loop:∀ s₃:Shared,s₃={ s with heap:=h₁,toks:=s.toks+([]:List (Str × Value)).length } →
      codeAny (model X.prog X.w) X.A (.compLoop (.ListComp elt [⟨tg,iter,ifs,0⟩] scope pos) 0 (.ref it) (.ref D) (compEnvC scope cl C X.env)) (CompDone X fp H s Q (.ref D) C) s₃:=by
    rintro s₃ rfl
    refine iO (λn s'=>∃ i σ' ys its nn H',Inv (X.block pins s H (tn++cn) scope cl C fp) [(D,{ cls:=.type "list",data:=.seq (its:List Value).toArray nn })] σ' H' s'/\tn' i s'.heap/\(∀ b∈fp,H' b=none)/\Vals ys its/\ys.length<=sizeLine/\W i n σ' ys H') ?_ m0
      ⟨0,_,[],[],0,H,I0,st1,λb hb=>(hf b hb).1,.nil,Nat.zero_le _,w0⟩
    rintro n s4 ⟨i,σ4,ys,its,nn,H4,I4,st4,fr4,r4,l4,w4⟩
    rcases step i n σ4 ys H4 w4 with⟨stop,qn⟩ | ⟨go,hlt,next⟩
    · refine AM (T.done (X.block pins s H (tn++cn) scope cl C fp) rfl rfl rfl hc i _ s4 σ4 H4 _ I4 (fpok fr4) st4 stop) λr s5 ⟨hr,I5⟩=> ?_
      subst hr
      have hp:=I5.pin (D,_) (List.mem_append_right _ List.mem_cons_self)
      obtain⟨m5,hm5,_⟩:=I5.loc
      exact⟨rfl,⟨D,ys,its,nn,H4,rfl,r4,l4,hp.1,by omega,hDC,hp.2.1,I5.free,⟨m5,hm5⟩,I5.base,I5.hok,qn⟩,by omega,I5.os,I5.bare⟩
    · refine AM (T.item (X.block pins s H (tn++cn) scope cl C fp) rfl rfl rfl hc i _ s4 σ4 H4 _ I4 (fpok fr4) st4 go) λr s5 ⟨u,hr,h5⟩=> ?_
      subst hr
      refine AM h5 λ_ s6 ⟨x,H6,I6,r6,y6,st6,fr6⟩=> ?_
      have I6':=I6.pinned (fpok fr6) (T.obj _ _ st6)
      refine AM (hg C _ s6 σ4 H6 x u _ I6' r6 (next x H6 y6)) λ_ s7 ⟨σ7,H7,I7,q7⟩=> ?_
      refine AM (ht C _ s7 σ7 H7 _ I7 q7) λok s8 ⟨H8,I8,q8⟩=> ?_
      have keepst:∀ {σ9:St} {H9:Hp} {s9:Shared},Inv (X.block pins s H (tn++cn) scope cl C fp) ([(D,{ cls:=.type "list",data:=.seq its.toArray nn })]++KG fp s6.heap) σ9 H9 s9->(∀ b∈fp,∀ o,s6.heap.get? b=some o->s9.heap.get? b=some o)/\∀ b∈fp,H9 b=none:=λ{σ9 H9 s9} I9=>by
        refine⟨λb hb o e=>(I9.pin (b,o) (List.mem_append_right _ (List.mem_append_right _ (LX hb e)))).1,λb hb=> ?_⟩
        obtain⟨o,e,_⟩:=T.obj _ _ st6 b hb
        exact(I9.pin (b,o) (List.mem_append_right _ (List.mem_append_right _ (LX hb e)))).2.1
      cases ok with
      | false =>
        obtain⟨m',hm',w'⟩:=q8
        obtain⟨k1,k2⟩:=keepst I8
        exact⟨m',hm',i+1,σ7,ys,its,nn,H8,I8.unpinned,T.keep _ _ _ st6 k1,k2,r4,l4,w'⟩
      | true =>
        obtain⟨Nw,hN,q8⟩:=q8
        refine AM (he C _ s8 σ7 H8 Nw I8 q8) λv s9 ⟨y,H9,I9,r9,n9⟩=> ?_
        obtain⟨m',hm',w'⟩:=hN y H9 n9
        obtain⟨k1,k2⟩:=keepst I9
        have hp:=I9.pin (D,_) (List.mem_append_right _ (List.mem_append_left _ List.mem_cons_self))
        have e:=hp.1
        have hlen:=r4.length
        refine call_meets F.slot_list_append ⟨_,e,rfl⟩ F.entry_list_append (F.args_list_append_2 _ _) (PySem.list_append D its.toArray nn v (by rw[List.size_toArray];omega)) ⟨e,?_⟩
        have q:=PySem.IsL.update e (λxs=>xs.push v)
        have Ia:Inv (X.block pins s H (tn++cn) scope cl C fp) [] σ7 H9 s9:=I9.pins_of λp hp=>nomatch hp
        have Ib:=Ia.turned (h':=s9.heap.update D (Obj.mapSeq (·.push v))) (t':=s9.toks) (it:=D) (λb o hb eb=>(Heap.get?_update_other _ _ (Ne.symm hb)).trans eb) hp.2.1 hDC (.inr (by show s.heap.objs.size<=D;omega))
          (λx c ec z=>by
            obtain⟨vv,zc⟩:=I.cell x c (hcl x c ec)
            exact DK zc.lt (Nat.le_of_eq hD) z)
          (λp hp'=>by
            rw[List.append_nil]at hp'
            exact DK (I.pinlt hp') (Nat.le_of_eq hD))
        have q':(s9.heap.update D (Obj.mapSeq (·.push v))).get? D=some { cls:=.type "list",data:=.seq (its++[v]).toArray (nn+1) }:=by
          rw[if_neg (by simp)]at q
          rw[<-List.push_toArray]
          exact q
        refine⟨m',hm',i+1,σ7,ys++[y],its++[v],nn+1,H9,Ib.pins_of (λp hp'=> ?_),T.keep _ _ _ st6 λb hb o eb=> ?_,k2,r4.append (.cons r9 .nil),?_,w'⟩
        · rw[List.mem_singleton]at hp'
          subst hp'
          exact⟨q',hp.2.1,hDC,hDs,λv' z=>nomatch z⟩
        · have hbl:=hfl b hb
          exact(Heap.get?_update_other _ _ (Ne.symm (DK hbl (Nat.le_of_eq hD)))).trans (k1 b hb o eb)
        · rw[List.length_append,List.length_singleton]
          omega
  exact codeAny_compStart_list (loop _ rfl) (T.self _ 0 _ _ _ st1 (loop _ rfl))
theorem CompDone.inv{Q:VK}{acc:Value}{C:Addr}{r:Result}{s':Shared}{fp:List Addr}(I:Inv X pins σ H s)(hf:∀ b∈fp,FpOk X pins H b)(h:CompDone X fp H s Q acc C r s') :
  ∃ D H',acc=.ref D/\Inv X pins σ H' s'/\Q (.ref D) H'/\H' C=none/\∃ m,s'.heap.Ns C m:=by
 obtain⟨_,⟨D,ys,its,n,H',rfl,r4,l4,e,hD,hDC,hDn,hCn,hm,u,ok,q⟩,hC,os,bare⟩:=h
 have lt:∀ b o,s.heap.get? b=some o->b≠D:=λb o eb=>DK (Heap.lt_size eb) hD
 have ltH:∀ b o,H b=some o->b≠D:=λb o eb=>DK (I.hok.lt eb) hD
 refine⟨D,upd H' D (.lst ys),rfl,I.call' (ch:=fp) os ⟨u.keep,u.slot,λb o eb n' hx=> ?_,u.there,λb xs eb=> ?_,λb o x eb=> ?_,λb ps eb=> ?_⟩ (ok.track hDn ⟨l4,its,n,r4,e⟩) bare (λb hb=> ?_),q D hDn,?_,hm⟩
 ·rw[AH (lt b o eb)];exact u.free b o eb n' hx
 ·rw[AH (ltH b _ eb)];exact u.tups b xs eb
 ·rw[AH (ltH b _ eb)];exact u.frzs b o x eb
 ·rw[AH (ltH b _ eb)];exact u.tbls b ps eb
 ·obtain⟨_,f1,f2,f3,f4,f5⟩:=hf b hb
  exact⟨f3,f1,f4,f5⟩
 ·rw[AH (Ne.symm hDC)];exact hCn
theorem Inv.letgo{C:Addr}{h':Heap}{s1:Shared}{σ1:St}{H1:Hp}(I:Inv X pins σ H s)(hC:s.heap.objs.size<=C)(I1:Inv X pins σ1 H1 s1)(hn:H1 C=none)(hs:Heap.SameBut C s1.heap h'):Inv X pins σ1 H1 { s1 with heap:=h' }:=by
 refine I1.turned (t':=s1.toks) (it:=C) (λb o hb e=>(hs.2 b hb).trans e) hn (λz=> ?_) (.inr ?_) (λx c e z=> ?_) λp hp z=> ?_
 ·exact DK I.lt hC z.symm
 ·exact Nat.le_trans I.sz hC
 ·obtain⟨v,zc⟩:=I.cell x c e
  exact DK zc.lt hC z
 ·exact DK (I.pinlt hp) hC z
variable{tg iter elt:Expr}{ifs:List Expr}{scope:Scope}{pos:Pos}{wi:TI}{g:TG}{tt:TT}{te:TE}{tn cn:List Str}{cap:List Nat}
theorem ML(S:KM X scope tn cn cap)(hc:X.calm=true)(hi:PI X tg iter wi)
  (hg:∀ pins s H cl C fp,PG (X.block pins s H (tn++cn) scope cl C fp) tg g) (ht:∀ pins s H cl C fp,KN (X.block pins s H (tn++cn) scope cl C fp) ifs tt) (he:∀ pins s H cl C fp,PE (X.block pins s H (tn++cn) scope cl C fp) elt te)
  (hs:∀ x,foldedSetIterable iter X.env x=pure x:=by intro _;rfl):PE X (.ListComp elt [⟨tg,iter,ifs,0⟩] scope pos) (E5 wi g tt te tn.length cap):=by
 intro pins s σ H Q I h
 obtain⟨cl,ecl,hcl,hcl2⟩:=VA (env:=X.env) (scope:=scope) λx hx hxf=>I.ok.has x.1 (S.free x hx hxf)
 rw[eval_ListComp]
 refine wpAny_comprehension_free (use:=none) rfl hs ecl S.kind S.names (AM (hi pins s σ H _ I h) λv s1 h1=>AM h1 λitv s2 h2=> ?_)
 obtain⟨it,fp,tn',J,H2,e,I2,T,st2,f2,W,⟨m0,w0⟩,turn⟩:=h2
 subst e
 refine AM (VE I2 S hc hcl hcl2 T st2 f2 (λC=>hg _ _ _ _ C _) (λC=>ht _ _ _ _ C _) (λC=>he _ _ _ _ C _) W w0 turn) λacc s3 h3=>AM h3 λcenv s4 h4=>codeAny_mono h4 λr s5 h5=> ?_
 have hr:=h5.ok
 subst hr
 obtain⟨D,H',rfl,I5,q5,hCn,m,hm⟩:=h5.inv I2 f2
 exact⟨m,hm,λh' hs'=>⟨.ref D,H',I2.letgo h5.ge I5 hCn hs',rfl,q5⟩⟩
theorem iP{i:Nat}{x:Str}{px spos:Pos}(S:KM X scope tn cn cap)(hc:X.calm=true)(hN:X.N.Nodup)(hi':X.N[i]? =some x)(hx:X.env.scope.names.lookup x=some .local)(hi:PI X tg iter wi)
  (hg:∀ pins s H cl C fp,PG (X.block pins s H (tn++cn) scope cl C fp) tg g) (ht:∀ pins s H cl C fp,KN (X.block pins s H (tn++cn) scope cl C fp) ifs tt) (he:∀ pins s H cl C fp,PE (X.block pins s H (tn++cn) scope cl C fp) elt te)
  (hsw:swapsWith (.ListComp elt [⟨tg,iter,ifs,0⟩] scope pos) (some (.Name x px)) spos.line X.env=pure true:=by rfl)
  (hs:∀ x,foldedSetIterable iter X.env x=pure x:=by intro _;rfl):PS X (.Assign [.Name x px] (.ListComp elt [⟨tg,iter,ifs,0⟩] scope pos) spos) (A4 (E5 wi g tt te tn.length cap) (AR i)):=by
 intro pins s σ H D I h
 obtain⟨cl,ecl,hcl,hcl2⟩:=VA (env:=X.env) (scope:=scope) λx hx hxf=>I.ok.has x.1 (S.free x hx hxf)
 rw[exec_Assign_Name_used _ _ _ _ hsw]
 refine wpAny_bind (wpAny_standAt (wpAny_bind ?_))
 unfold evalThenUse
 refine wpAny_bind ?_
 refine wpAny_comprehension_free (use:=some (assign (.Name x px) X.env)) rfl hs ecl S.kind S.names (AM (hi pins s σ H _ I h) λv s1 h1=>AM h1 λitv s2 h2=> ?_)
 obtain⟨it,fp,tn',J,H2,e,I2,T,st2,f2,W,⟨m0,w0⟩,turn⟩:=h2
 subst e
 refine AM (VE (Q:=λx' H1=>AR i x' σ H1 D.nx) I2 S hc hcl hcl2 T st2 f2 (λC=>hg _ _ _ _ C _) (λC=>ht _ _ _ _ C _) (λC=>he _ _ _ _ C _) W w0 turn) λacc s3 h3=>AM h3 λcenv s4 h4=>codeAny_mono h4 λr s5 h5=> ?_
 have hr:=h5.ok
 subst hr
 obtain⟨Da,H',rfl,I5,q5,hCn,m,hm⟩:=h5.inv I2 f2
 show wpAny _ _ (assign (.Name x px) X.env (.ref Da)) _ _ s5
 refine wpAny_assign_Name (S7 I5 hN hi' (.inl hx) (show RelV (.ref Da) (.ref Da)from rfl) (λs6 I6 ⟨a,hsb,ha⟩=> ?_) (.inr hx))
 refine⟨m,hm.sameBut hsb ?_,λh' hs'=> ?_⟩
 ·rcases ha with z | z
  ·exact Ne.symm (z ▸ DK I2.lt h5.ge)
  ·obtain⟨vv,zc⟩:=I2.cell x a z
   exact Ne.symm (DK zc.lt h5.ge)
 ·exact wpAny_pure (wpAny_pure ⟨σ.set i (some (.ref Da)),H',I2.letgo h5.ge I6 hCn hs',q5⟩)
end
end L2
namespace L2
theorem ObjOk.there{P:Program}{w:World}{H:Hp}{h:Heap}{a:Addr}{o:HO}(x:ObjOk P w H h a o):∃ ob,h.get? a=some ob:=by
 cases o with
 | lst xs=>obtain⟨_,_,_,_,e⟩:=x;exact⟨_,e⟩
 | tup xs=>obtain⟨_,_,_,ob,e,_⟩:=x;exact⟨_,e⟩
 | dK kvs=>obtain⟨_,_,_,_,ob,_,_,e,_⟩:=x;exact⟨_,e⟩
 | dT kvs=>obtain⟨_,_,_,_,ob,_,_,e,_⟩:=x;exact⟨_,e⟩
 | set S n=>obtain⟨ob,_,_,_,e,_⟩:=x;exact⟨_,e⟩
 | ins C dx fs=>obtain⟨_,_,_,e,_⟩:=x;exact⟨_,e⟩
 | own y=>exact x
 | xd fs=>obtain⟨_,⟨ob,_,_,e,_⟩,_⟩:=x;exact⟨_,e⟩
 | rng lo hi=>obtain⟨_,_,_,e⟩:=x;exact⟨_,e⟩
 | frz ob u=>obtain⟨e,_⟩:=x;exact⟨_,e⟩
 | tbl ps=>exact⟨_,show h.get? a=some _ from x⟩
 | met f y=>exact⟨_,show h.get? a=some _ from x⟩
 | ext φ =>exact x.2.1
theorem HOk.nh{P:Program}{w:World}{H:Hp}{h:Heap}{a:Addr}(x:HOk P w H h)(e:h.get? a=none):H a=none:=by
 cases q:H a with
 | none=>rfl
 | some o =>
  obtain⟨ob,e'⟩:=(x a o q).there
  rw[e]at e';cases e'
section
variable{X:Cx}{pins:List (Addr × Obj)}{σ:St}{H H':Hp}{s:Shared}{h':Heap}
theorem Inv.stepN{g':Array GenState}{t':Nat}{d':Drawn}{ch:List Addr}(I:Inv X pins σ H s)
  (hch:∀ b∈ch,(b∈X.ex\/X.s₀.heap.get? b=none)/\b≠X.env.locals/\(∀ x c,X.env.cells.lookup x=some c->c≠b)/\∀ p∈X.pn++pins,p.1≠b)
  (keep:∀ b o,b≠X.env.locals->b∉X.fs->b∉ch->s.heap.get? b=some o->H b=none->h'.get? b=some o)
  (slot:∀ b o,b≠X.env.locals->b∈X.fs->b∉ch->s.heap.get? b=some o->H b=none->∃ sl,h'.get? b=some { o with slots:=sl }) (free:∀ b o,b∉ch->s.heap.get? b=some o->H b=none->H' b=none)
  (there:∀ b o,b∉ch->s.heap.get? b=some o->∃ o',h'.get? b=some o')
  (tups:∀ b xs,H b=some (.tup xs)->H' b=some (.tup xs)) (frzs:∀ b o u,H b=some (.frz o u)->H' b=some (.frz o u)) (tbls:∀ b ps,H b=some (.tbl ps)->∃ more,H' b=some (.tbl (ps++more)))
  (ns:∀ m,s.heap.Ns X.env.locals m->h'.Ns X.env.locals m) (hok:HOk X.prog X.w H' h') (hg:AllBare g') :
  Inv X pins σ H' { s with heap:=h',gens:=g',drawn:=d',toks:=t' }:=by
 have neL:∀ b o,X.s₀.heap.get? b=some o->b≠X.env.locals:=λb o e=>Nat.ne_of_lt (Nat.lt_of_lt_of_le (Heap.lt_size e) I.ok.above)
 have neC:∀ b o,X.s₀.heap.get? b=some o->b∉X.ex->b∉ch:=λb o e hx hb=>by
  rcases(hch b hb).1 with z | z
  ·exact hx z
  ·rw[e]at z;cases z
 have cellK:∀ x c,X.env.cells.lookup x=some c->∀ v,s.heap.IsCell c v->h'.IsCell c v:=λx c e v ⟨o,ho,hd⟩=>by
  have nch:c∉ch:=λz=>(hch c z).2.2.1 x c e rfl
  by_cases hc:c∈X.fs
  ·obtain⟨sl,q⟩:=slot c o (I.cne x c e) hc nch ho (I.freeC x c e)
   exact⟨_,q,hd⟩
  ·exact⟨o,keep c o (I.cne x c e) hc nch ho (I.freeC x c e),hd⟩
 refine⟨I.ok,I.os,hg,⟨λb o e n hb hx=> ?_,λb o e n hb hx=> ?_,λb o e n hx=> ?_,λb o e hx=> ?_,λb xs e=>tups b xs (I.base.tups b xs e),λb o xs e=>frzs b o xs (I.base.frzs b o xs e),λb ps e=> ?_⟩,?_,λx c e=> ?_,?_,λx c e=> ?_,λp hp=> ?_,hok,I.len⟩
 ·exact keep b o (neL b o e) hb (neC b o e hx) (I.base.keep b o e n hb hx) (I.base.free b o e n hx)
 ·obtain⟨sl,e1⟩:=I.base.slot b o e n hb hx
  obtain⟨sl',e2⟩:=slot b _ (neL b o e) hb (neC b o e hx) e1 (I.base.free b o e n hx)
  exact⟨sl',e2⟩
 ·obtain⟨o',e1⟩:=I.base.there b o e hx
  exact free b o' (neC b o e hx) e1 (I.base.free b o e n hx)
 ·obtain⟨o',e1⟩:=I.base.there b o e hx
  exact there b o' (neC b o e hx) e1
 ·obtain⟨m1,e1⟩:=I.base.tbls b ps e
  obtain⟨m2,e2⟩:=tbls b _ e1
  exact⟨m1++m2,by rw[e2,Array.append_assoc]⟩
 ·obtain⟨m,hn,hl⟩:=I.loc
  refine⟨m,ns m hn,λi x v e1 e2 e3=> ?_⟩
  obtain⟨u,r,l⟩:=hl i x v e1 e2 e3
  refine⟨u,r,?_⟩
  rcases l with l | ⟨k,c,e,z⟩
  ·exact .inl l
  ·exact .inr ⟨k,c,e,cellK x c e _ z⟩
 ·obtain⟨v,z⟩:=I.cell x c e
  exact⟨v,cellK x c e v z⟩
 ·obtain⟨m,⟨o,_,_,ho,_⟩,_⟩:=I.loc
  exact free _ o (λz=>(hch _ z).2.1 rfl) ho I.free
 ·obtain⟨v,o,ho,hd⟩:=I.cell x c e
  exact free c o (λz=>(hch c z).2.2.1 x c e rfl) ho (I.freeC x c e)
 ·obtain⟨e,n,ne,nf,d⟩:=I.pin p hp
  have nch:p.1∉ch:=λz=>(hch p.1 z).2.2.2 p hp rfl
  exact⟨keep p.1 p.2 ne nf nch e n,free p.1 p.2 nch e n,ne,nf,d⟩
end
structure Fly(bad:Addr->Prop)(H:Hp)(h:Heap)(e:Addr)(cls:Value):Prop where
 nb:¬ bad e
 free:H e=none
 ex:∃ (oe:Obj) (vs:Array Value),h.get? e=some oe/\oe.cls=cls/\oe.dict=none/\oe.data=.fields vs/\(vs[1]? =some .none ∨
  ∃ (T:Addr) (oT:Obj) (ts:Array Value),vs[1]? =some (.ref T)/\¬ bad T/\H T=none/\T≠e/\h.get? T=some oT/\oT.data=.fields ts/\ts[3]? =some .none)
theorem Fly.mono{bad bad':Addr->Prop}{H:Hp}{h:Heap}{e:Addr}{cls:Value}(F:Fly bad H h e cls)(k:∀ a,bad' a->bad a):Fly bad' H h e cls:=by
 obtain⟨nb,fr,oe,vs,h1,h2,h3,h4,h5⟩:=F
 refine⟨λz=>nb (k _ z),fr,oe,vs,h1,h2,h3,h4,?_⟩
 rcases h5 with z | ⟨T,oT,ts,a,b,c⟩
 ·exact .inl z
 ·exact .inr ⟨T,oT,ts,a,λz=>b (k _ z),c⟩
section
variable{M:Model}{A:Around}{E:Value->Shared->Prop}{s:Shared}
theorem VF{base:Heap}{env:Env}{outer:List Env}{L e:Addr}{oe:Obj}{vs:Array Value}{hd:Value}{nx:Bool}{Q:Unit->Shared->Prop}
  (hfr:A.frames=some (env::outer)) (hl:s.heap.FunFrames base (env::outer)) (hf:env.frame=some L) (he:s.heap.get? e=some oe) (hdt:oe.data=.fields vs) (hsz:1<vs.size)
  (h:∀ h' T oT ts,(∀ b o,s.heap.get? b=some o->b≠e->b∉CP (env::outer)->h'.get? b=some o)->(∀ b o,s.heap.get? b=some o->b≠e->∃ sl,h'.get? b=some { o with slots:=sl }) →
   h'.get? e=some (oe.mapFields (·.setIfInBounds 1 (.ref T)))->s.heap.objs.size<=T->h'.get? T=some oT->oT.data=.fields ts->ts[3]? =some (rawInt L)->Q () { s with heap:=h' }) :
  wpAny M A (do let a ← frameOf env;let pl ← entryPlaceOf L nx;let b ← EntryCells.newEntry hd a .none (rawInt L) .none pl;setField (.ref e) 1 b) Q E s:=by
 have hne:e∉(env::outer).filterMap (·.frame):=λz=>by
  obtain⟨_,o,ho,hn⟩:=hl.mem z
  rw[he]at ho;cases ho
  exact hn vs hdt
 refine wpAny_bind (wpAny_frameOf_fun hfr hl hf λh1 hs1=> ?_)
 refine wpAny_bind (wpAny_entryPlaceOf λpl hpl=> ?_)
 unfold EntryCells.newEntry newFields
 refine wpAny_bind (wpAny_newObj_type ?_ (hpl.sizeOk5 _ _ _ _ _))
 have he1:h1.get? e=some oe:=(hs1.2.1 e hne).trans he
 refine wpAny_setField (Heap.get?_push_of_some _ he1) hdt hsz ?_
 have hTe:h1.objs.size≠e:=Nat.ne_of_gt (Heap.lt_size he1)
 have hd3:=Obj.data_mapFields hdt (·.setIfInBounds 1 (Value.ref h1.objs.size))
 have keep:∀ b o,b≠e->h1.get? b=some o->((h1.push { cls:=.type "traceback",dict:=none,data:=.fields ([hd,.ref L,.none,rawInt L,.none]++(if pl.isEmpty then List.replicate 6 Value.none else pl)).toArray }).update e (Obj.mapFields (·.setIfInBounds 1 (Value.ref h1.objs.size)))).get? b=some o:=λb o hb e1=>by
  rw[Heap.get?_update_other _ _ (Ne.symm hb)]
  exact Heap.get?_push_of_some _ e1
 refine h _ h1.objs.size _ _ (λb o e1 hb hnf=>keep b o hb ((hs1.2.1 b hnf).trans e1)) (λb o e1 hb=> ?_) (Heap.get?_update_self _ (Heap.get?_push_of_some _ he1) (Obj.isFreed_of_fields hd3)) (by rw[hs1.1];exact Nat.le_refl _)
  ((Heap.get?_update_other _ _ (Ne.symm hTe)).trans (Heap.get?_push_size _ rfl)) rfl ?_
 ·obtain⟨sl,e2⟩:=hs1.2.2 b o e1
  exact⟨sl,keep b _ hb e2⟩
 ·first | (simp;done) | (rcases hpl with rfl | ⟨_,_,_,_,_,_,_,rfl⟩<;>simp)
structure VG(fr:List Addr)(bad:Addr->Prop)(H:Hp)(e:Addr)(cls:Value)(h h':Heap):Prop where
 ch:∃ ch:List Addr,(∀ b∈ch,¬ bad b/\H b=none/\∃ o vs,h.get? b=some o/\o.data=.fields vs)/\(∀ b o,h.get? b=some o->b∉ch->b∉fr->h'.get? b=some o) ∧
  (∀ b o,h.get? b=some o->b∉ch->∃ sl,h'.get? b=some { o with slots:=sl })
 fly:Fly bad H h' e cls
theorem iQ{A2:Around}{E2:Value->Shared->Prop}{base:Heap}{env:Env}{outer:List Env}{L e:Addr}{cls:Value}{bad:Addr->Prop}{H:Hp}{Q:Unit->Shared->Prop}
  (hfr:A.frames=some (env::outer)) (hl:s.heap.FunFrames base (env::outer)) (hf:env.frame=some L) (F:Fly bad H s.heap e cls) (hb:∀ a,s.heap.objs.size<=a->¬ bad a) (hH:∀ a,s.heap.objs.size<=a->H a=none)
  (h:∀ h',VG (CP (env::outer)) bad H e cls s.heap h'->Q () { s with heap:=h' }) :
  wpAny M A (noteFrame (.ref e) env) (λ_ s2=>wpAny M A2 (setFlight (.ref e) none) Q E2 s2) E s:=by
 obtain⟨nb,fr,oe,vs,he,hcls,hdict,hd,htb⟩:=F
 have CW:∀ (s1:Shared) (ch:List Addr) (h':Heap) (T:Addr) (oT:Obj) (ts:Array Value) (oe1:Obj),(∀ b o,s.heap.get? b=some o->s1.heap.get? b=some o\/b∈ch)->s1.heap.objs.size=s.heap.objs.size->e∈ch->(∀ b∈ch,¬ bad b/\H b=none/\∃ o vs,s.heap.get? b=some o/\o.data=.fields vs) →
   oe1.cls=cls->oe1.dict=none->oe1.data=.fields vs->1<vs.size →
   (∀ b o,s1.heap.get? b=some o->b≠e->b∉CP (env::outer)->h'.get? b=some o)->(∀ b o,s1.heap.get? b=some o->b≠e->∃ sl,h'.get? b=some { o with slots:=sl }) →
   h'.get? e=some (oe1.mapFields (·.setIfInBounds 1 (.ref T)))->s1.heap.objs.size<=T->h'.get? T=some oT->oT.data=.fields ts->ts[3]? =some (rawInt L)->wpAny M A2 (setFlight (.ref e) none) Q E2 { s with heap:=h' }:=by
  intro s1 ch h' T oT ts oe1 hk1 hsz hech hch hcls1 hdict1 hd1 hv k1 k2 e1 hT e2 hdT h3
  have hT':s.heap.objs.size<=T:=hsz ▸ hT
  have hTe:T≠e:=Ne.symm (DK (Heap.lt_size he) hT')
  have hde:=Obj.data_mapFields hd1 (·.setIfInBounds 1 (Value.ref T))
  unfold setFlight
  refine wpAny_bind (wpAny_field e1 hde (x:=.ref T) (by simp[hv]) ?_)
  rw[if_pos (show(Value.ref T != Value.none)=true from by simp)]
  have hs3:3<ts.size:=(Array.getElem?_eq_some_iff.mp h3).1
  refine wpAny_setField e2 hdT hs3 (h _ ?_)
  have oth:∀ b,b≠T->(h'.update T (Obj.mapFields (·.setIfInBounds 3 ((none:Option Addr).elim Value.none λf=>rawInt f)))).get? b=h'.get? b:=λb hb'=>Heap.get?_update_other _ _ (Ne.symm hb')
  have ltT:∀ b o,s.heap.get? b=some o->b≠T:=λb o eb=>DK (Heap.lt_size eb) hT'
  refine⟨⟨ch,hch,λb o eb hbc hbf=> ?_,λb o eb hbc=> ?_⟩,nb,fr,_,_,(oth e (Ne.symm hTe)).trans e1,(Obj.cls_mapFields _ _).trans hcls1,?_,hde,.inr ⟨T,_,_,by simp[hv],hb T hT',hH T hT',hTe,Heap.get?_update_self _ e2 (Obj.isFreed_of_fields (Obj.data_mapFields hdT _)),Obj.data_mapFields hdT _,by simp[hs3]⟩⟩
  ·rw[oth b (ltT b o eb)]
   rcases hk1 b o eb with z | z
   ·exact k1 b o z (λz'=>hbc (z' ▸ hech)) hbf
   ·exact absurd z hbc
  ·rw[oth b (ltT b o eb)]
   rcases hk1 b o eb with z | z
   ·exact k2 b o z (λz'=>hbc (z' ▸ hech))
   ·exact absurd z hbc
  ·obtain⟨c1,c2,c3,c4⟩:=oe1
   dsimp only at hd1
   subst hd1
   exact hdict1
 unfold noteFrame
 simp only[hf]
 rcases htb with h1 | ⟨T0,oT0,ts0,h1,nbT,frT,neT,eT,dT,h3⟩
 ·have hv:1<vs.size:=(Array.getElem?_eq_some_iff.mp h1).1
  refine wpAny_bind (wpAny_field he hd h1 ?_)
  rw[if_neg (by decide)]
  refine VF hfr hl hf he hd hv λh' T oT ts k1 k2 e1 hT e2 hdT h3=> ?_
  exact CW s [e] h' T oT ts oe (λb o eb=>.inl eb) rfl (by simp) (λb hb'=>by rw[List.mem_singleton]at hb';subst hb';exact⟨nb,fr,oe,vs,he,hd⟩) hcls hdict hd hv k1 k2 e1 hT e2 hdT h3
 ·have hv:1<vs.size:=(Array.getElem?_eq_some_iff.mp h1).1
  refine wpAny_bind (wpAny_field he hd h1 ?_)
  rw[if_pos (show(Value.ref T0 != Value.none)=true from by simp)]
  refine wpAny_bind (wpAny_field eT dT h3 ?_)
  rw[if_neg (show ¬ ((Value.none == rawInt L)=true)from by simp[rawInt])]
  refine wpAny_bind (wpAny_setField eT dT (Array.getElem?_eq_some_iff.mp h3).1 ?_)
  have oth:∀ b,b≠T0->(s.heap.update T0 (Obj.mapFields (·.setIfInBounds 3 Value.none))).get? b=s.heap.get? b:=λb hb'=>Heap.get?_update_other _ _ (Ne.symm hb')
  have nf:∀ b o,s.heap.get? b=some o->(∀ vs,o.data≠.fields vs)->b≠T0:=λb o eb hn z=>by rw[z,eT]at eb;cases eb;exact hn ts0 dT
  refine VF hfr (hl.of_keeps λb o eb hn=>⟨o,(oth b (nf b o eb hn)).trans eb,rfl⟩) hf ((oth e (Ne.symm neT)).trans he) hd hv λh' T oT ts k1 k2 e1 hT e2 hdT h3'=> ?_
  exact CW { s with heap:=s.heap.update T0 (Obj.mapFields (·.setIfInBounds 3 Value.none)) } [e,T0] h' T oT ts oe
   (λb o eb=>by
    by_cases z:b=T0
    ·exact .inr (by simp[z])
    ·exact .inl ((oth b z).trans eb))
   (Heap.size_after_update ..) (by simp)
   (λb hb'=>by
    rcases List.mem_cons.mp hb' with z | z
    ·subst z;exact⟨nb,fr,oe,vs,he,hd⟩
    ·rw[List.mem_singleton]at z;subst z;exact⟨nbT,frT,oT0,ts0,eT,dT⟩)
   hcls hdict hd hv k1 k2 e1 hT e2 hdT h3'
end
def Cx.bad(X:Cx)(pins:List (Addr × Obj)):Addr->Prop:=λa=>X.s₀.heap.get? a≠none\/∃ p∈X.pn++pins,p.1=a
structure XOk(X:Cx)(E:St->XK):Prop where
 po:PassesOwn (model X.prog X.w) X.A X.env X.xe
 ex:X.ex=[]
 calm:X.calm=true
 go:∀ (pins:List (Addr × Obj)) (σ:St) (H:Hp) (s:Shared) (e:Addr) (cls:Value),Inv X pins σ H s->Fly (X.bad pins) H s.heap e cls->E σ cls none H->X.xe (.ref e) s
section
variable{X:Cx}{pins:List (Addr × Obj)}{σ:St}{H:Hp}{s:Shared}
theorem Inv.notbad(I:Inv X pins σ H s)(hx:X.ex=[]){a:Addr}(h:s.heap.get? a=none):¬ X.bad pins a:=λz=>by
 rcases z with z | ⟨p,hp,rfl⟩
 ·cases q:X.s₀.heap.get? a with
  | none=>exact z q
  | some o =>
   obtain⟨o',e⟩:=I.base.there a o q (by rw[hx];simp)
   rw[h]at e;cases e
 ·have:=(I.pin p hp).1
  rw[h]at this;cases this
theorem iR{h:Heap}{a:Addr}(z:h.objs.size<=a):h.get? a=none:=by
 cases q:h.get? a with
 | none=>rfl
 | some o=>exact absurd (Nat.lt_of_lt_of_le (Heap.lt_size q) z) (Nat.lt_irrefl _)
theorem Inv.noted{e:Addr}{cls:Value}{h':Heap}(I:Inv X pins σ H s)(N:VG (CP X.stack) (X.bad pins) H e cls s.heap h'):Inv X pins σ H { s with heap:=h' }:=by
 obtain⟨⟨ch,hch,k1,k2⟩,_⟩:=N
 obtain⟨mL,⟨oL,esL,epL,hoL,dL,rL⟩,_⟩:=id I.loc
 have chne:∀ b∈ch,∀ o,s.heap.get? b=some o->∃ vs,o.data=.fields vs:=λb hb o eb=>by
  obtain⟨_,_,o',vs,e',d⟩:=hch b hb
  rw[eb]at e';cases e'
  exact⟨vs,d⟩
 have hL:X.env.locals∉ch:=λz=>by
  obtain⟨vs,d⟩:=chne _ z _ hoL
  rw[dL]at d;cases d
 refine I.stepN (g':=s.gens) (t':=s.toks) (d':=s.drawn) (ch:=ch) (λb hb=>⟨.inr ?_,λz=>hL (z ▸ hb),λx c ec z=> ?_,λp hp z=>(hch b hb).1 (.inr ⟨p,hp,z⟩)⟩)
  (λb o hbL hbf hbc eb _=>k1 b o eb hbc λz=>(List.mem_cons.mp (I.stkSub b z)).elim hbL hbf) (λb o _ _ hbc eb _=>k2 b o eb hbc) (λ_ _ _ _ n=>n) (λb o hbc eb=> ?_) (λ_ _ q=>q) (λ_ _ _ q=>q) (λb ps q=>⟨#[],by rw[q];simp⟩) (λm hm=> ?_) (λb o eb=> ?_) I.bare
 ·cases q:X.s₀.heap.get? b with
  | none=>rfl
  | some o=>exact absurd (.inl (by rw[q];simp)) (hch b hb).1
 ·obtain⟨v,oc,hoc,hd⟩:=I.cell x c ec
  obtain⟨vs,d⟩:=chne c (z ▸ hb) oc hoc
  rw[hd]at d;cases d
 ·obtain⟨sl,q⟩:=k2 b o eb hbc
  exact⟨_,q⟩
 ·obtain⟨o',es',ep',ho',r'⟩:=hm
  rw[hoL]at ho';cases ho'
  obtain⟨sl,q⟩:=k2 _ _ hoL hL
  exact⟨_,es',ep',q,r'⟩
 ·refine(I.hok b o eb).stay (λc u hc q=>k1 c u q ?_ ?_) (λ_ q=>q) λ_ _ q=>q
  ·intro z
   have fr:=(hch c z).2.1
   rcases hc with rfl | hc
   ·rw[eb]at fr;cases fr
   ·rw[hc]at fr;cases fr
  ·intro z
   have fr:=I.stkFree c z
   rcases hc with rfl | hc
   ·rw[eb]at fr;cases fr
   ·rw[hc]at fr;cases fr
def CS(P:Program)(w:World):DV:=λouter H s E e s'=>∃ (ea:Addr) (cls:Value) (H':Hp),e=.ref ea/\s'.os=s.os/\AllBare s'.gens/\Un (CP outer) [] H H' s.heap s'.heap/\HOk P w H' s'.heap/\Fly (λa=>s.heap.get? a≠none) H' s'.heap ea cls/\E cls none H'
theorem VH{P:Program}{w:World}{outer:List Env}{H:Hp}{s:Shared}{e:Value}{s':Shared}(h:CS P w outer H s (λ_ _ _=>False) e s'):False:=by
 obtain⟨_,_,_,_,_,_,_,_,_,f⟩:=h
 exact f
theorem XOk.passes{E:St->XK}(x:XOk X E):DW (CS X.prog X.w) X E:=λpins σ H s e s' I h=>by
 obtain⟨ea,cls,H',rfl,os,bare,un,hok,F,q⟩:=h
 refine x.go pins σ H' s' ea cls (I.call' (ch:=[]) os un hok bare λb z=>absurd z (by simp)) (F.mono λa z=> ?_) q
 rcases z with z | ⟨p,hp,rfl⟩
 ·cases q0:X.s₀.heap.get? a with
  | none=>exact absurd q0 z
  | some o =>
   obtain⟨o',e⟩:=I.base.there a o q0 (by rw[x.ex];simp)
   rw[e];simp
 ·rw[(I.pin p hp).1];simp
theorem iS{P:Program}{w:World}:DW (CS P w) X (λ_=>E0):=λ_ _ _ _ _ _ _ h=>(VH h).elim
end
theorem iT{P:Program}{w:World}{K:W.Frag}{mg:Str->Option Value}{base:Heap}{N:List Str}{qual:Str}{scope:Scope}{f:Addr}{cd:Value}{A:Around}{outer:List Env}{s:Shared}{H:Hp}{E:XK} :
  XOk (E3 (CS P w) P w K mg base N qual scope f cd A outer s H E) (λ_=>E) where
 po:=PassesOwn.leaving
 ex:=rfl
 calm:=rfl
 go:=λpins σ H' s' e cls I F q=>by
  have hfr:(A.deeper (envOfC qual scope s.heap.objs.size f cd)).frames=some (envOfC qual scope s.heap.objs.size f cd::outer):=I.ok.frames
  show wpAny _ _ (leaving _ _) _ _ _
  unfold leaving
  refine wpAny_bind (iQ hfr I.stack rfl F (λa z=>I.notbad rfl (iR z)) (λa z=>I.hok.fresh z) λh' N=> ?_)
  have I':=I.noted N
  exact⟨e,cls,H',rfl,I'.os,I'.bare,I'.base,I'.hok,N.fly.mono λa z=>.inl z,q⟩
structure Exc(K:W.Frag)(C:Addr):Prop where
 ex:W.excIn K C [.type "ValueError",.type "Exception",.type "BaseException",.type "object"] "ValueError.__new__"=true
theorem Exc.obj{K:W.Frag}{C:Addr}{h:Heap}(x:Exc K C)(X:K.In h):∃ (tl:List Value) (N:Addr) (nm q:Str) (bs:List Value) (hdct:Bool) (sn:List Str) (sub:List Value) (ab:Bool) (col:Option Bool) (dd:Option Addr) (k0 k1 k2 k3 k5:Option Value) (mN:Str->Option Value),
  h.get? C=some (excClassObj nm q C N bs tl hdct sn sub ab col dd k0 k1 k2 k3 k5 "ValueError.__new__")/\h.Ns N mN/\mN "__init__"=none/\OwnTail h [.type "ValueError",.type "Exception",.type "BaseException",.type "object"] tl:=by
 have q:=x.ex
 unfold W.excIn at q
 split at q
 ·rename_i dd cd sl ho
  split at q
  ·rename_i C' bm k0 k1 k2 k3 n k5 hm hs
   simp only[Bool.and_eq_true,beq_iff_eq,Bool.not_eq_true']at q
   obtain⟨⟨⟨⟨⟨rfl,rfl⟩,hdel⟩,ht⟩,hok⟩,hni⟩:=q
   obtain⟨nm,bs,mro,ns,qn,hd,sn,sub,ab,col,del⟩:=cd
   dsimp only at hm hdel hok hni
   subst hm hdel
   obtain⟨l⟩:=sl
   simp only at hs
   subst hs
   exact⟨bm,ns,nm,qn,bs,hd,sn,sub,ab,col,dd,k0,k1,k2,k3,k5,_,X _ _ ho,.of_isNs (W.isNs_of_in X hok),W.nsMap_none_of_in X hok hni,W.tail_of_in X ht⟩
  ·cases q
 ·cases q
def IF(C:Addr)(E:St->XK)(t:TA):TS:=λ_ σ H=>t σ H λvs H1=>vs.length<=sizeLine/\E σ (.ref C) none H1
section
variable{X:Cx}{E:St->XK}{C:Addr}{x:Str}{np cpos pos:Pos}{e:Expr}{es:List Expr}{t:TA}
theorem MM(hx:XOk X E)(c:Exc X.K C)(hg:Gl X x)(hm:X.mg x=some (.ref C))(ha:PA X (e::es) t)(hdb:(x ==("__debug__":Str))=false:=by decide)
  (he:starEach (e::es) X.env=(false,eval e X.env)::starEach es X.env:=by rfl) (hpl:(backTo cpos (starEach es X.env)).any (·.1)=false:=by rfl) :
  PS X (.Raise (some (.Call (.Name x np) (e::es) [] cpos)) none pos) (IF C E t):=by
 intro pins s σ H D I h
 obtain⟨tl,N,nm,q,bs,hdct,sn,sub,ab,col,dd,k0,k1,k2,k3,k5,mN,hC,hN,hni,T⟩:=c.obj I.mod.kin
 have hpl2:(backTo cpos (starEach (e::es) X.env)).any (·.1)=false:=by
  rw[he]
  show(false || (backTo cpos (starEach es X.env)).any (·.1))=false
  rw[hpl];rfl
 refine wpAny_Raise_call_subT (C:=C) (nm:=nm) (q:=q) (N:=N) (bs:=bs) (bm:=tl) (hdct:=hdct) (sn:=sn) (sub:=sub) (ab:=ab) (col:=col) (dd:=dd) (k0:=k0) (k1:=k1) (k2:=k2) (k3:=k3) (k5:=k5)
  PySem.F.excBase_ValueError (mN:=mN) (T.hasType PySem.F.excBase_ValueError.hasBase) (I.ok.hd hx.calm) hpl2 hni (HV I hg hm ⟨rfl,?_⟩ hdb)
 have hq:=ha cpos pins s σ H _ I h
 rw[he]at hq ⊢
 refine Calls.evalArgs_plain (AM hq λus s1 ⟨vs,H1,I1,r,hz,q1⟩=>⟨rfl,?_,I1.bk _ _ hC,hN.keeps I1.bk,T.keeps I1.bk,λh' ea hM=> ?_⟩)
 ·show us.length<=_
  rw[<-r.length];exact hz
 ·have I2:Inv X pins σ H1 { s1 with heap:=h' }:=I1.kept (t':=s1.toks) hM.keeps
  obtain⟨tt,h1,h2,h3⟩:=hM.there
  refine hx.go pins σ H1 _ ea (.ref C) I2 ⟨λz=>I1.notbad hx.ex hM.new z,I1.hok.nh hM.new,_,_,h1,rfl,rfl,rfl,.inl rfl⟩ q1
end
end L2
namespace L2
section
variable(P:Program)(w:World)(K:W.Frag)(mg:Str->Option Value)(base:Heap)
structure C1(k:Nat)(x:Str)(ps:List Str)(sp:Sp):Prop where
 ex:∃ (f:Addr) (fd:FuncData),FnOk P w K mg base (CS P w) k f fd ps sp/\mg x=some (.ref f)/\W.keepIn K (.ref f)=true/\Binds K fd ps []
structure BF(C:Addr)(k:Nat)(m:Str)(ps:List Str)(sp:Sp):Prop where
 ex:∃ (f:Addr) (fd:FuncData),FnOk P w K mg base (CS P w) k f fd ps sp/\MD K C m f/\Binds K fd ps []
structure FN(C:Addr)(k:Nat)(x:Str)(ps:List Str)(sp:Sp):Prop where
 ex:∃ (f:Addr) (fd:FuncData),FnOk P w K mg base (CS P w) k f fd ps sp/\Mk K C f/\mg x=some (.ref C)/\Binds K fd ps []
end
section
variable{X:Cx}{E:St->XK}{k:Nat}{x m:Str}{ps:List Str}{sp:Sp}{C:Addr}{p pos apos:Pos}{e o:Expr}{es:List Expr}{ta:TE}{t:TA}
theorem BU(c:C1 X.prog X.w X.K X.mg X.base k x ps sp)(hr:Room k X.A)(hp:DW (CS X.prog X.w) X E)(hg:Gl X x)(ha:PA X (e::es) t)(hdb:(x ==("__debug__":Str))=false:=by decide)
  (he:starEach (e::es) X.env=(false,eval e X.env)::starEach es X.env:=by rfl) (hpl:(backTo pos (starEach es X.env)).any (·.1)=false:=by rfl):PE X (.Call (.Name x p) (e::es) [] pos) (BO sp [] E t):=by
 obtain⟨f,fd,F,hm,hk,hb⟩:=c.ex
 exact fZ F hr hg hm hk hb .nil hp ha hdb he hpl
theorem BX{pl:Sem Bool}(he:PE X o ta)(cl:Cls X.K C)(c:BF X.prog X.w X.K X.mg X.base C k m ps sp)(hr:Room k X.A)(hp:DW (CS X.prog X.w) X E)(ha:PA X (e::es) t)
  (hst:starEach (e::es) X.env=(false,eval e X.env)::starEach es X.env:=by rfl) (hpl:(backTo pos (starEach es X.env)).any (·.1)=false:=by rfl)
  (ht:eval (.Call (.Attribute o m apos) (e::es) [] pos) X.env=(do
   let ov ← eval o X.env
   standAt apos.atName
   let (f,first) ← holding [ov] (getMethod ov m pl)
   callWith pos f first (backTo pos (starEach (e::es) X.env)) (backToKw pos (keywordEach [] X.env))):=by rfl):PE X (.Call (.Attribute o m apos) (e::es) [] pos) (A5 C m sp [] E ta t):=by
 obtain⟨f,fd,F,hm,hb⟩:=c.ex
 exact f6 he cl hm F hr hb .nil hp ha hst hpl ht
theorem DB{pl:Sem Bool}(he:PE X o ta)(cl:Cls X.K C)(c:BF X.prog X.w X.K X.mg X.base C k m ps sp)(hr:Room k X.A)(hp:DW (CS X.prog X.w) X E)
  (ht:eval (.Call (.Attribute o m apos) [] [] pos) X.env=(do
   let ov ← eval o X.env
   standAt apos.atName
   let (f,first) ← holding [ov] (getMethod ov m pl)
   callWith pos f first (backTo pos (starEach [] X.env)) (backToKw pos (keywordEach [] X.env))):=by rfl):PE X (.Call (.Attribute o m apos) [] [] pos) (A5 C m sp [] E ta AE):=by
 obtain⟨f,fd,F,hm,hb⟩:=c.ex
 exact f7 he cl hm F hr hb .nil hp ht
theorem FO(c:FN X.prog X.w X.K X.mg X.base C k x ps sp)(hr:Room (k+1) X.A)(hp:DW (CS X.prog X.w) X E)(hg:Gl X x)(ha:PA X (e::es) t)(hdb:(x ==("__debug__":Str))=false:=by decide)
  (he:starEach (e::es) X.env=(false,eval e X.env)::starEach es X.env:=by rfl) (hpl:(backTo pos (starEach es X.env)).any (·.1)=false:=by rfl):PE X (.Call (.Name x p) (e::es) [] pos) (DA C sp [] E t):=by
 obtain⟨f,fd,F,M,hm,hb⟩:=c.ex
 exact f8 M F hr hg hm hb .nil hp ha hdb he hpl
theorem OM(c:FN X.prog X.w X.K X.mg X.base C k x ps sp)(hr:Room (k+1) X.A)(hp:DW (CS X.prog X.w) X E)(hg:Gl X x)(hdb:(x ==("__debug__":Str))=false:=by decide):PE X (.Call (.Name x p) [] [] pos) (DA C sp [] E AE):=by
 obtain⟨f,fd,F,M,hm,hb⟩:=c.ex
 exact f9 M F hr hg hm hb .nil hp hdb
end
theorem Fun.okE{P:Program}{w:World}{K:W.Frag}{mg:Str->Option Value}{base:Heap}{x qual:Str}{st:Stmt}{f:Addr}{fd:FuncData}{N ps:List Str}{k:Nat}{sp:Sp}(F:Fun K x qual st f fd)(S:FnScope N ps (AO st))(len:∀ vs H Q E,sp vs H Q E->vs.length=ps.length)
  (hbody:∀ (cdv:Value) (A:Around) (outer:List Env) (s:Shared) (H:Hp) (vs:List V) (Q:VK) (E:XK),Room k (A.deeper (envOfC qual (AO st) s.heap.objs.size f cdv))->sp vs H Q E →
   ∃ t,PSs (E3 (CS P w) P w K mg base N qual (AO st) f cdv A outer s H E) (A9 st) t/\t { nx:=λ_ H'=>Q .non H',rt:=Q } (A8 N vs) H):FnOk P w K mg base (CS P w) (k+1) f fd ps sp:=by
 obtain⟨oc,od,kV,doc,pm,an,cdv,ct,osl,rfl,l,c⟩:=F.ex
 exact UI l c S len λA outer s H vs Q E hr h=>hbody cdv A outer s H vs Q E hr h
def GV(mg:Str->Option Value)(x:Str)(v:V):Prop:=∃ u,mg x=some u/\RelV v u
theorem iU{X:Cx}{x:Str}{v:V}{pos:Pos}(g:GV X.mg x v)(hg:Gl X x)(hd:(x ==("__debug__":Str))=false:=by decide):PE X (.Name x pos) (tC v):=by
 obtain⟨u,hm,r⟩:=g
 exact dU hg hm r hd
abbrev Cx.tri(X:Cx)(pn:List (Addr × Obj))(xe:Value->Shared->Prop):Cx:={ X with pn:=pn,xe:=xe }
abbrev Cx.hand(X:Cx)(e:Addr):Cx:={ X with A:=X.A.mark (some (.ref e)),calm:=false,xe:=λ_ _=>False }
section
variable{X:Cx}{pins:List (Addr × Obj)}{σ:St}{H:Hp}{s:Shared}
theorem Cx.Ok.tri{pn:List (Addr × Obj)}{xe:Value->Shared->Prop}(ok:X.Ok):(X.tri pn xe).Ok :=
 ⟨ok.mod,ok.kind,ok.glob,ok.blt,ok.above,ok.inj,ok.has,ok.cab,ok.hd,ok.frames,ok.stk,ok.exf,ok.bs,ok.bsz,ok.noex,ok.exfs,ok.funs,ok.frf⟩
theorem Inv.tri{xe:Value->Shared->Prop}(I:Inv X pins σ H s):Inv (X.tri (X.pn++pins) xe) [] σ H s :=
 ⟨I.ok.tri,I.os,I.bare,I.base,I.loc,I.cell,I.free,I.freeC,λp hp=>I.pin p (by simpa using hp),I.hok,I.len⟩
theorem Cx.Ok.untri{pn:List (Addr × Obj)}{xe:Value->Shared->Prop}(ok:(X.tri pn xe).Ok):X.Ok :=
 ⟨ok.mod,ok.kind,ok.glob,ok.blt,ok.above,ok.inj,ok.has,ok.cab,ok.hd,ok.frames,ok.stk,ok.exf,ok.bs,ok.bsz,ok.noex,ok.exfs,ok.funs,ok.frf⟩
theorem Inv.untri{pl:List (Addr × Obj)}{xe:Value->Shared->Prop}(I:Inv (X.tri (X.pn++pins) xe) pl σ H s):Inv X pins σ H s :=
 ⟨I.ok.untri,I.os,I.bare,I.base,I.loc,I.cell,I.free,I.freeC,λp hp=>I.pin p (List.mem_append_left _ hp),I.hok,I.len⟩
theorem Cx.Ok.hand{e:Addr}(ok:X.Ok):(X.hand e).Ok :=
 ⟨ok.mod,ok.kind,ok.glob,ok.blt,ok.above,ok.inj,ok.has,ok.cab,(λz=>nomatch z),ok.frames,ok.stk,ok.exf,ok.bs,ok.bsz,ok.noex,ok.exfs,ok.funs,ok.frf⟩
theorem Inv.hand{e:Addr}(I:Inv X pins σ H s):Inv (X.hand e) pins σ H s:=⟨I.ok.hand,I.os,I.bare,I.base,I.loc,I.cell,I.free,I.freeC,I.pin,I.hok,I.len⟩
theorem Inv.unhand{e:Addr}(ok:X.Ok)(I:Inv (X.hand e) pins σ H s):Inv X pins σ H s:=⟨ok,I.os,I.bare,I.base,I.loc,I.cell,I.free,I.freeC,I.pin,I.hok,I.len⟩
end
def KO(e:Addr)(cls:Value):Heap->Prop:=λh=>∃ oe vs,h.get? e=some oe/\oe.cls=cls/\oe.dict=none/\oe.data=.fields vs
abbrev TH:=Value->Ends->St->Hp->Prop
def Ends.drop(D:Ends)(i:Nat):Ends:={ nx:=λσ H=>D.nx (σ.set i none) H,rt:=D.rt,bk:=λσ H=>D.bk (σ.set i none) H,ct:=λσ H=>D.ct (σ.set i none) H }
def iV(tb:(St->XK)->TS)(th:TH):TS:=λD σ H=>tb (λσ' cls _ H'=>th cls D σ' H') D σ H
section
variable{X:Cx}{hs:List ExceptHandler}{h₀:ExceptHandler}{th:TH}{body:List Stmt}{tb:(St->XK)->TS}{pos:Pos}
theorem SP.unhand{pins:List (Addr × Obj)}{D:Ends}{e:Addr}{f:Flow}{s:Shared}(ok:X.Ok)(h:SP (X.hand e) pins D f s):SP X pins D f s:=by
 cases f with
 | next=>obtain⟨σ1,H1,I1,q⟩:=h;exact⟨σ1,H1,I1.unhand ok,q⟩
 | brk=>obtain⟨σ1,H1,I1,q⟩:=h;exact⟨σ1,H1,I1.unhand ok,q⟩
 | cont=>obtain⟨σ1,H1,I1,q⟩:=h;exact⟨σ1,H1,I1.unhand ok,q⟩
 | ret u=>obtain⟨v,σ1,H1,I1,r,q⟩:=h;exact⟨v,σ1,H1,I1.unhand ok,r,q⟩
end
end L2
namespace L2
mutual
inductive Rep(K:W.Frag)(H:Hp):V->PyData->Prop
 | non:Rep K H .non .none
 | bl (b:Bool):Rep K H (.bl b) (.bool b)
 | int (i:Int):Rep K H (.int i) (.int i)
 | str (x:Str):Rep K H (.str x) (.str x)
 | lst {a:Addr} {xs:List V} {ds:List PyData}:SqL K H a xs->RepAll K H xs ds->Rep K H (.ref a) (.list ds)
 | tup {a:Addr} {xs:List V} {ds:List PyData}:SqT K H a xs->RepAll K H xs ds->Rep K H (.ref a) (.tuple ds)
inductive RepAll(K:W.Frag)(H:Hp):List V->List PyData->Prop
 | nil:RepAll K H [] []
 | cons {v:V} {d:PyData} {vs:List V} {ds:List PyData}:Rep K H v d->RepAll K H vs ds->RepAll K H (v::vs) (d::ds)
end
section
variable{X:Cx}{pins:List (Addr × Obj)}{σ:St}{H:Hp}{s:Shared}
mutual
theorem Rep.reads(I:Inv X pins σ H s):∀ {v:V} {d:PyData} {u:Value},Rep X.K H v d->RelV v u->∃ as,Reads s.heap u d as
 | _,_,_,.non,r=>by cases (show _=Value.none from r);exact⟨_,.none⟩
 | _,_,_,.bl b,r=>by cases (show _=Value.bool b from r);exact⟨_,.bool b⟩
 | _,_,_,.int i,r=>by obtain⟨t,e⟩:=(show ∃ t,_=Value.int i t from r);cases e;exact⟨_,.int i t⟩
 | _,_,_,.str x,r=>by obtain⟨t,e⟩:=(show ∃ t,_=Value.str x t from r);cases e;exact⟨_,.str x t⟩
 | _,_,_,.lst (a:=a) h hr,r=>by
  cases (show _=Value.ref a from r)
  obtain⟨its,rv,p,_⟩:=I.list h
  obtain⟨as,q⟩:=RepAll.reads I hr rv
  obtain⟨o,e1,e2,n,e3⟩:=p.isList
  exact⟨_,.list e1 e2 e3 q⟩
 | _,_,_,.tup (a:=a) h hr,r=>by
  cases (show _=Value.ref a from r)
  obtain⟨its,rv,p,_⟩:=I.tuple h
  obtain⟨as,q⟩:=RepAll.reads I hr rv
  obtain⟨o,e1,e2,n,e3⟩:=p
  exact⟨_,.tuple e1 e2 e3 q⟩
theorem RepAll.reads(I:Inv X pins σ H s):∀ {vs:List V} {ds:List PyData} {us:List Value},RepAll X.K H vs ds->Vals vs us->∃ as,ReadsAll s.heap us ds as
 | _,_,_,.nil,.nil=>⟨_,.nil⟩
 | _,_,_,.cons h hr,.cons r rr=>by
  obtain⟨as,q⟩:=Rep.reads I h r
  obtain⟨bs,q2⟩:=RepAll.reads I hr rr
  exact⟨_,.cons q q2⟩
end
end
abbrev shp(d:PyData):Prop:=PySem.SeqAt.shaped d=true
def BZ(K:W.Frag):R2:=λx y H Q=>if CZ x y=true then Q (.bl (decide (x=y))) H else ∃ d e,Rep K H x d/\Rep K H y e/\shp d/\shp e/\Q (.bl (PyData.eqv d e)) H
def BQ(K:W.Frag):R2:=λx y H Q=>if CZ x y=true then Q (.bl (!decide (x=y))) H else ∃ d e,Rep K H x d/\Rep K H y e/\shp d/\shp e/\Q (.bl (!PyData.eqv d e)) H
section
variable{X:Cx}
theorem ER(hu:X.A.units+64<cLine):OpR X (compareOp .Eq) (BZ X.K):=by
 intro pins s σ H x y v u Q I rx ry h
 unfold BZ at h
 split at h
 ·rename_i hs
  exact fC pins s σ H x y v u Q I rx ry ⟨hs,h⟩
 ·obtain⟨d,e,rd,re,sd,se,q⟩:=h
  obtain⟨as,ra⟩:=rd.reads I rx
  obtain⟨bs,rb⟩:=re.reads I ry
  exact eq_dataH ra rb sd se hu ⟨.bl _,H,I,rfl,q⟩
theorem EI(hu:X.A.units+64<cLine):OpR X (compareOp .NotEq) (BQ X.K):=by
 intro pins s σ H x y v u Q I rx ry h
 unfold BQ at h
 split at h
 ·rename_i hs
  exact fD pins s σ H x y v u Q I rx ry ⟨hs,h⟩
 ·obtain⟨d,e,rd,re,sd,se,q⟩:=h
  obtain⟨as,ra⟩:=rd.reads I rx
  obtain⟨bs,rb⟩:=re.reads I ry
  exact ne_dataH ra rb sd se hu ⟨.bl _,H,I,rfl,q⟩
def ON(K:W.Frag):R2:=λx y H Q=>∃ a b ys,x=.ref a/\y=.ref b/\SqT K H a []/\SqT K H b ys/\Q (.ref b) H
theorem iW:OpR X (binaryOp .Add) (ON X.K):=by
 intro pins s σ H x y v u Q I rx ry h
 obtain⟨a,b,ys,rfl,rfl,ha,hb,q⟩:=h
 cases rx
 cases ry
 obtain⟨its,r1,⟨⟨c1,c2,c3,c4⟩,e1,e2,n1,e3⟩,_⟩:=I.tuple ha
 obtain⟨its2,r2,⟨⟨d1,d2,d3,d4⟩,f1,f2,n2,f3⟩,_⟩:=I.tuple hb
 obtain rfl:c1=_:=e2
 obtain rfl:c3=_:=e3
 obtain rfl:d1=_:=f2
 obtain rfl:d3=_:=f3
 cases r1
 exact concat_meets ⟨_,e1,rfl⟩ ⟨_,f1,rfl⟩ noFill_tuple_add seq_tuple_add PySem.F.slot_tuple_add PySem.F.entry_tuple_add (PySem.F.args_tuple_add_2 _ _) (tuple_addW0 a b #[] its2.toArray n1 n2 c2 d2 c4 d4 rfl) ⟨e1,f1,.ref b,H,I,rfl,q⟩
def C2(K:W.Frag):R2:=λx y H Q=>match x,y with
 | .int i,.int j=>Q (.int (i+j)) H
 | .str i,.str j=>i.length+j.length<=sizeLine/\Q (.str (i++j)) H
 | .ref _,.ref _=>OA x y H Q\/N8 K x y H Q\/ON K x y H Q
 | _,_=>False
theorem DY:OpR X (binaryOp .Add) (C2 X.K):=by
 intro pins s σ H x y v u Q I rx ry h
 cases x<;>cases y<;>simp only[C2]at h
 ·exact eU pins s σ H _ _ v u Q I rx ry ⟨_,_,rfl,rfl,h⟩
 ·exact fI pins s σ H _ _ v u Q I rx ry ⟨_,_,rfl,rfl,h⟩
 ·rcases h with h | h
  ·exact g8 pins s σ H _ _ v u Q I rx ry h
  rcases h with h | h
  ·exact gJ pins s σ H _ _ v u Q I rx ry h
  ·exact iW pins s σ H _ _ v u Q I rx ry h
def E6:R2:=λx y H Q=>match x,y with
 | .int i,.int j=>Q (.bl (decide (i<j))) H
 | .str i,.str j=>Q (.bl (decide (i.cps.toList<j.cps.toList))) H
 | _,_=>False
def GI:R2:=λx y H Q=>match x,y with
 | .int i,.int j=>Q (.bl (decide (i<=j))) H
 | .str i,.str j=>Q (.bl (!decide (j.cps.toList<i.cps.toList))) H
 | _,_=>False
end
end L2
namespace L2
theorem iX:fillsNumberSlot (.type "tuple") "mul"=pure false :=
 PySem.fillsNumberSlot_seq (id:="tuple.__mul__") (r:=some (.builtin "tuple.__rmul__")) F.slot_tuple_mul.lookup (by decide +kernel) F.slot_tuple_rmul.lookup (by decide +kernel)
theorem iY:seqRepeat? (.type "tuple")=pure (some (.builtin "tuple.__mul__")):=by
 unfold seqRepeat?
 rw[PySem.seqSlot_of (T:="tuple") (name:="__mul__") (id:="tuple.__mul__") F.slot_tuple_mul.lookup (by decide +kernel),PySem.seqSlot_of (T:="tuple") (name:="__rmul__") (id:="tuple.__rmul__") F.slot_tuple_rmul.lookup (by decide +kernel)]
 rfl
theorem iZ(a:Int)(t:Tok)(l:Addr)(items:Array Value)(dd:Option Addr)(n:Nat)(sl:Array (Option Value)) :
  Meets (Builtin.«int.__rmul__» ⟨[.int a t,.ref l],[]⟩) (λ_ R s=>s.heap.get? l=some ⟨.type "tuple",dd,.seq items n,sl⟩/\R (.ok (.ret Value.notImplemented)) s) :=
 .of_wp λprog w A R s h=>by obtain⟨hp,g,d,tk,os⟩:=s;obtain⟨hl,h⟩:=h;wp_walk;exact⟨_,rfl,h⟩
theorem i4(l:Addr)(items:Array Value)(dd:Option Addr)(n:Nat)(sl:Array (Option Value))(x:Int)(u:Tok)(h1:1<x)(h2:x<2 ^ 63)(hne:items.isEmpty=false)(hz:items.size * x.toNat<=sizeLine) :
  Meets (Builtin.«tuple.__mul__» ⟨[.ref l,.int x u],[]⟩) (λ_ R s=>s.heap.get? l=some ⟨.type "tuple",dd,.seq items n,sl⟩ ∧
   R (.ok (.ret (Value.ref s.heap.objs.size))) { s with heap:=s.heap.push { cls:=Value.type "tuple",data:=Data.seq (List.foldl (λx1 x2=>x1++x2) #[] (List.replicate x.toNat items)) } }) :=
 .of_wp λprog w A R s h=>by
  obtain⟨hp,g,d,tk,os⟩:=s;obtain⟨hl,h⟩:=h
  have hsl:(sizeLine:Nat)<=(2 ^ 63 - 1) / 8:=by decide
  have hlen:(List.foldl (λx1 x2=>x1++x2) #[] (List.replicate x.toNat items)).size<=sizeLine:=by
   have:=MG items.toList x.toNat []
   simp only[List.nil_append,Array.toArray_toList]at this
   rw[this]
   simp only[List.size_toArray,List.length_flatten,List.map_replicate,List.sum_replicate_nat,Array.length_toList]
   rw[Nat.mul_comm];exact hz
  have hx:∃ N:Nat,(items.size:Int) * x=(N:Int)/\N<=sizeLine:=⟨items.size * x.toNat,by rw[Int.natCast_mul,Int.toNat_of_nonneg (by omega)],hz⟩
  obtain⟨N,hx,hN⟩:=hx
  unfold Builtin.«tuple.__mul__»
  wp_walk
  refine wpAny_ite_false (by simp;omega) ?_
  wp_walk
  refine wpAny_ite_false (by simp only[hne,Bool.false_or];simp;omega) ?_
  refine wpAny_ite_false (by simp only[hne,Bool.or_false];simp;omega) ?_
  refine wpAny_ite_false (by rw[hx];exact decide_eq_false (by omega)) ?_
  refine wpAny_ite_false (by rw[hx];unfold Builtin.Tuple.tupleTooMany;simp;omega) ?_
  wp_walk
  exact⟨_,rfl,h⟩
theorem i5(l:Addr)(items:Array Value)(dd:Option Addr)(n:Nat)(sl:Array (Option Value))(u:Tok) :
  Meets (Builtin.«tuple.__mul__» ⟨[.ref l,.int 1 u],[]⟩) (λ_ R s=>s.heap.get? l=some ⟨.type "tuple",dd,.seq items n,sl⟩/\R (.ok (.ret (Value.ref l))) s) :=
 .of_wp λprog w A R s h=>by
  obtain⟨hp,g,d,tk,os⟩:=s;obtain⟨hl,h⟩:=h
  unfold Builtin.«tuple.__mul__»
  wp_walk
  exact⟨_,rfl,h⟩
def OO(K:W.Frag):R2:=λx y H Q=>∃ a k xs,x=.ref a/\y=.int k/\SqT K H a xs/\xs≠[]/\1<=k/\k<2 ^ 63/\xs.length * k.toNat<=sizeLine ∧
 (k=1->Q (.ref a) H)/\(k≠1->∀ p,H p=none->Q (.ref p) (upd H p (.tup (List.replicate k.toNat xs).flatten)))
section
variable{X:Cx}
theorem Inv.tnew{pins:List (Addr × Obj)}{σ:St}{H:Hp}{s:Shared}{ys:List V}{its:List Value}(I:Inv X pins σ H s)(hv:Vals ys its)(hz:ys.length<=sizeLine) :
  Inv X pins σ (upd H s.heap.objs.size (.tup ys)) { s with heap:=s.heap.push { cls:=.type "tuple",data:=.seq its.toArray } } :=
 I.laid (t':=s.toks) (λ_ _ q=>Heap.get?_push_of_some _ q) (Nat.le_refl _) ⟨hz,its,hv,_,Heap.get?_push_size _ rfl,rfl,0,rfl⟩
theorem i6:OpR X (binaryOp .Mult) (OO X.K):=by
 intro pins s σ H x y v u Q I rx ry h
 obtain⟨a,k,xs,rfl,rfl,hx,hne,h1,h2,hz,q1,q2⟩:=h
 cases rx
 obtain⟨t,rfl⟩:=ry
 obtain⟨its,r,⟨⟨c1,c2,c3,c4⟩,e1,e2,n,e3⟩,_⟩:=I.tuple hx
 obtain rfl:c1=_:=e2
 obtain rfl:c3=_:=e3
 have hl:=r.length
 have he:its.toArray.isEmpty=false:=by
  cases its with
  | nil=>exact absurd (List.length_eq_zero_iff.mp hl) hne
  | cons b t=>rfl
 refine wpAny_binaryOp_repeat_ref (T:="tuple") (U:="int") (by decide) ⟨_,e1,rfl⟩ (λs'=>typeIs_int s' k t) iX F.fills_int_mul F.slot_int_rmul iY F.slot_int_index.lookup
  (call_meets F.slot_int_rmul (typeIs_int s k t) F.entry_int_rmul (F.args_int_rmul_2 _ _) (iZ k t a its.toArray c2 n c4) ⟨e1,rfl,⟨_,e1,rfl⟩,?_⟩)
 by_cases hk:k=1
 ·subst hk
  exact call_meets F.slot_tuple_mul ⟨_,e1,rfl⟩ F.entry_tuple_mul (F.args_tuple_mul_2 _ _) (i5 a its.toArray c2 n c4 t) ⟨e1,.ref a,H,I,rfl,q1 rfl⟩
 ·refine call_meets F.slot_tuple_mul ⟨_,e1,rfl⟩ F.entry_tuple_mul (F.args_tuple_mul_2 _ _) (i4 a its.toArray c2 n c4 k t (by omega) h2 he (by rw[List.size_toArray,<-hl];exact hz)) ⟨e1,?_⟩
  have f0:=MG its k.toNat []
  rw[List.nil_append]at f0
  rw[f0]
  exact⟨.ref _,_,I.tnew (r.rep k.toNat) (by rw[UX,Nat.mul_comm];exact hz),rfl,q2 hk _ I.fresh⟩
abbrev KP:R2:=EY λi j=>.int (i - j)
abbrev D7:R2:=rI (λ_ j=>0<j) λi j=>.int (i % j)
abbrev VI:R2:=rI TQ λi j=>.int (i / j)
abbrev VJ:R2:=rI N2 λi j=>.int (i ^ j.toNat)
abbrev i7:V->Hp->VK->Prop:=rU λi=>.int (-i)
abbrev i8:LU:=NZ λi j=>i+j
def MN(z:Str)(k:Int):Str:=if k<1 then Str.empty else if(k == 1 || z.length == 0)=true then z else⟨(List.replicate k.toNat z.cps).foldl (· ++·) #[]⟩
theorem i9(z:Str)(k:Nat):(Str.mk ((List.replicate k z.cps).foldl (· ++·) #[])).length=k * z.length:=by
 have e:∀ (m:Nat) (acc:Array Nat),((List.replicate m z.cps).foldl (· ++·) acc).size=acc.size+m * z.cps.size:=λm=>by
  induction m with
  | zero=>intro acc;simp
  | succ m ih=>intro acc;rw[List.replicate_succ,List.foldl_cons,ih,Array.size_append,Nat.succ_mul];omega
 have:=e k #[]
 simpa [Str.length]using this
def jA:R2:=λx y H Q=>∃ z k,x=.str z/\y=.int k/\0<=k/\k<=1000/\z.length<=1000/\Q (.str (MN z k)) H
theorem jB:OpR X (binaryOp .Mult) jA:=by
 intro pins s σ H x y v u Q I rx ry h
 obtain⟨z,k,rfl,rfl,h1,h2,h3,q⟩:=h
 obtain⟨t,rfl⟩:=rx
 obtain⟨t',rfl⟩:=ry
 refine PySem.P.mul_str (by simp;omega) (λa _=> ?_) (λa _=> ?_) ?_
 ·have:(1000:Int)<=(2 ^ 63 - 1) / k:=(Int.le_ediv_iff_mul_le (by omega)).mpr (by omega)
  omega
 ·have h4:z.length * k.toNat<=1000 * 1000:=Nat.mul_le_mul h3 (by omega)
  have h5:(1000 * 1000:Nat)<=sizeLine:=by decide
  unfold Builtin.Str.tooLong
  exact decide_eq_false (by omega)
 ·unfold MN at q
  split
  ·rename_i c
   rw[if_pos c]at q
   exact⟨by show(0:Nat)<=sizeLine;omega,.str _,H,I.tok _,⟨_,rfl⟩,q⟩
  ·rename_i c
   rw[if_neg c]at q
   split
   ·rename_i d
    rw[if_pos d]at q
    exact⟨.str _,H,I,⟨_,rfl⟩,q⟩
   ·rename_i d
    rw[if_neg d]at q
    exact⟨by rw[i9];have:=Nat.mul_le_mul (show k.toNat<=1000 by omega) h3;show _<=2 ^ 24;omega,.str _,H,I.tok _,⟨_,rfl⟩,q⟩
def ES(K:W.Frag):R2:=λx y H Q=>match x,y with
 | .int i,.int j=>CMul i j/\Q (.int (i * j)) H
 | .str z,.int k=>0<=k/\k<=1000/\z.length<=1000/\Q (.str (MN z k)) H
 | .ref _,.int _=>OB x y H Q\/OO K x y H Q
 | _,_=>False
theorem KQ:OpR X (binaryOp .Mult) (ES X.K):=by
 intro pins s σ H x y v u Q I rx ry h
 cases x<;>cases y<;>simp only[ES]at h
 ·exact eV pins s σ H _ _ v u Q I rx ry ⟨_,_,rfl,rfl,h⟩
 ·exact jB pins s σ H _ _ v u Q I rx ry ⟨_,_,rfl,rfl,h⟩
 ·rcases h with h | h
  ·exact g9 pins s σ H _ _ v u Q I rx ry h
  ·exact i6 pins s σ H _ _ v u Q I rx ry h
def MO:R2:=λx y H Q=>match x,y with
 | .int i,.int j=>Q (.bl (decide (j<i))) H
 | _,_=>False
def jC:R2:=λx y H Q=>match x,y with
 | .int i,.int j=>Q (.bl (decide (j<=i))) H
 | _,_=>False
theorem IG:OpR X (compareOp .Lt) E6:=by
 intro pins s σ H x y v u Q I rx ry h
 cases x<;>cases y<;>simp only[E6]at h
 ·exact fE pins s σ H _ _ v u Q I rx ry ⟨_,_,rfl,rfl,h⟩
 ·obtain⟨t,rfl⟩:=rx
  obtain⟨t',rfl⟩:=ry
  exact PySem.P.lt_str ⟨.bl _,H,I,rfl,h⟩
theorem MP:OpR X (compareOp .LtE) GI:=by
 intro pins s σ H x y v u Q I rx ry h
 cases x<;>cases y<;>simp only[GI]at h
 ·exact fF pins s σ H _ _ v u Q I rx ry ⟨_,_,rfl,rfl,h⟩
 ·obtain⟨t,rfl⟩:=rx
  obtain⟨t',rfl⟩:=ry
  exact PySem.P.le_str ⟨.bl _,H,I,rfl,h⟩
theorem jD:OpR X (compareOp .Gt) MO:=by
 intro pins s σ H x y v u Q I rx ry h
 cases x<;>cases y<;>simp only[MO]at h
 exact fG pins s σ H _ _ v u Q I rx ry ⟨_,_,rfl,rfl,h⟩
abbrev MQ:R2:=λx y H Q=>y=.non/\Q (.bl (decide (x=.non))) H
abbrev VL:R2:=λx y H Q=>y=.non/\Q (.bl (!decide (x=.non))) H
variable{a:Expr}{ta:TE}{tA:TT}{pos:Pos}
abbrev DO(K:W.Frag)(ta:TE):TT:=λσ H Q=>ta σ H λx H'=>∃ k,EG K x H' k/\Q k H'
def AT(K:W.Frag):R2:=UT K
theorem AV:IxR X (AT X.K):=gP
def jE:V->Option Int->Option Int->Hp->VK->Prop:=λx lo hi H Q=>∃ z,x=.str z/\z.length<=sizeLine/\Q (.str (Txt.slice z lo hi)) H
theorem VM{v:Value}{lo:Option Int}(p:IsPart v lo):∃ l:Option (Int × Tok),v=partValue l/\l.map (·.1)=lo:=by
 cases p with
 | none=>exact⟨none,rfl,rfl⟩
 | int i t=>exact⟨some (i,t),rfl,rfl⟩
theorem jF:SlR X jE:=by
 intro pins s σ H x v vl vu lo hi sl Q I rx hs pl pu h
 obtain⟨z,rfl,hz,q⟩:=h
 obtain⟨t,rfl⟩:=rx
 obtain⟨l,rfl,rfl⟩:=VM pl
 obtain⟨u,rfl,rfl⟩:=VM pu
 refine⟨"str",_,PySem.F.slot_str_getitem.lookup,typeIs_str _ _ _,?_⟩
 exact wpAny_getItem_str_slice (l:=l) (u:=u) (st:=none) hs rfl (post_val_or_str ⟨Nat.le_trans (Txt.slice_le z _ _) hz,λt' k=>⟨.str _,H,I.tok k,⟨t',rfl⟩,q⟩⟩)
def MR(K:W.Frag):V->Option Int->Option Int->Hp->VK->Prop:=λx lo hi H Q=>match x with
 | .str z=>z.length<=sizeLine/\Q (.str (Txt.slice z lo hi)) H
 | _=>UV K x lo hi H Q\/UN K x lo hi H Q
theorem jG:SlR X (MR X.K):=by
 intro pins s σ H x v vl vu lo hi sl Q I rx hs pl pu h
 cases x<;>first
  | exact jF pins s σ H _ v vl vu lo hi sl Q I rx hs pl pu ⟨_,rfl,h⟩
  | exact(SlR.or gU gI) pins s σ H _ v vl vu lo hi sl Q I rx hs pl pu h
abbrev OP:V->V->V->Hp->(Hp->Prop)->Prop:=UU
theorem VN:NY X OP:=gR
def DP(K:W.Frag)(tl:TE):TI:=λσ H R=>tl σ H λx H1=>∃ a,x=.ref a/\(((∃ xs,SqL K H1 a xs)/\R (FI K a) H1)\/((∃ xs,SqT K H1 a xs)/\R (GB K a) H1))
theorem PI.or{tg it:Expr}{w1 w2:TI}(h1:PI X tg it w1)(h2:PI X tg it w2):PI X tg it (λσ H R=>w1 σ H R\/w2 σ H R):=λpins s σ H R I h=>h.elim (h1 pins s σ H R I) (h2 pins s σ H R I)
def DC(K:W.Frag):List V->Hp->VK->Prop:=λxs H Q=>∃ x n,xs=[x]/\N3 K x H n/\Q (.int n) H
theorem DZ:CallR X (.builtin "len") (DC X.K):=fM
def FQ(K:W.Frag):List V->Hp->VK->Prop:=λxs H Q=>∃ p ys,xs=[.ref p]/\(SqL K H p ys\/SqT K H p ys)/\∀ l,H l=none->Q (.ref l) (upd H l (.lst ys))
theorem IH:CallR X (.type "list") (FQ X.K):=gW
def II(K:W.Frag):List V->Hp->VK->Prop:=λxs H Q=>∃ p ys,xs=[.ref p]/\((SqL K H p ys/\∀ l,H l=none->Q (.ref l) (upd H l (.tup ys)))\/(SqT K H p ys/\Q (.ref p) H))
theorem OQ:CallR X (.type "tuple") (II X.K):=gX
def G1(K:W.Frag):List V->Hp->VK->Prop:=λxs H Q=>(∃ i,xs=[.int i]/\Q (.int i) H)\/∃ k,xs=[.bl k]/\Q (.int (if k then 1 else 0)) H
abbrev GJ:=UW
end
end L2
namespace L2
section
variable{X:Cx}{tg a:Expr}{ta:TE}{pos:Pos}
theorem EJ{l:Expr}{tl:TE}(hl:PE X l tl):PI X tg l (DP X.K tl):=by
 intro pins s σ H R I h
 refine AM (hl pins s σ H _ I h) λv s1 ⟨x,H1,I1,r1,q1⟩=> ?_
 obtain⟨a,e,q1⟩:=q1
 subst e
 cases r1
 have fp1:∀ b∈[s1.heap.objs.size],FpOk X pins H1 b:=λb hb=>by
  have e:b=s1.heap.objs.size:=by simpa using hb
  subst e
  exact I1.fpOk (Nat.le_refl _) (I1.hok.fresh (Nat.le_refl _))
 rcases q1 with⟨⟨xs,hq⟩,q⟩ | ⟨⟨xs,hq⟩,q⟩
 ·obtain⟨its,rv,p,hz⟩:=I1.list hq
  refine wpAny_pyIter_list p.isList ?_
  exact⟨s1.heap.objs.size,[s1.heap.objs.size],_,_,H1,rfl,I1.kept (t':=s1.toks) λb o e=>Heap.get?_push_of_some _ e,eF a _,⟨_,Heap.get?_push_size _ rfl,rfl,rfl⟩,fp1,q⟩
 ·obtain⟨its,rv,p,hz⟩:=I1.tuple hq
  refine wpAny_pyIter_tuple (show s1.heap.IsTuple a its.toArray from p) ?_
  exact⟨s1.heap.objs.size,[s1.heap.objs.size],_,_,H1,rfl,I1.kept (t':=s1.toks) λb o e=>Heap.get?_push_of_some _ e,eG a _,⟨_,Heap.get?_push_size _ rfl,rfl,rfl⟩,fp1,q⟩
def OR(K:W.Frag)(ta:TE):TE:=λσ H Q=>ta σ H λx H1=>∃ k,EG K x H1 k/\Q (.bl (!k)) H1
theorem jH(ha:PE X a ta):PE X (.UnaryOp .Not a pos) (OR X.K ta):=by
 intro pins s σ H Q I h
 refine UnaryOp_ (AM (ha pins s σ H _ I h) λv s1 ⟨x,H1,I1,r1,k,t1,q1⟩=> ?_)
 exact not_of (AM (T2 pins s1 σ H1 x v (λc H2=>c=k/\H2=H1) I1 r1 ⟨k,t1,rfl,rfl⟩) λc s2 ⟨H2,I2,e1,e2⟩=>by
  subst e1;subst e2;exact⟨.bl (!c),_,I2,rfl,q1⟩)
end
def VO(scope outer:Scope)(N cn:List Str)(cap:List Nat):Bool :=
 scope.kind == .function && scope.names.all (λy=>y.2 != .cell) && scope.names.all (λy=>y.2 != .local || scope.names.lookup y.1 == some .local) &&
 scope.names.all (λy=>y.2 != .free || outer.names.lookup y.1 == some .cell || outer.names.lookup y.1 == some .free) && cn.all (λx=>scope.names.lookup x == some .free) && (cap.map (λi=>N[i]?) == cn.map some)
theorem KR{X:Cx}{scope outer:Scope}{N tn cn:List Str}{cap:List Nat}(h1:X.env.scope=outer)(h2:X.N=N)(h:VO scope outer N cn cap=true):KM X scope tn cn cap:=by
 unfold VO at h
 simp only[Bool.and_eq_true,List.all_eq_true,Bool.or_eq_true,bne_iff_ne,beq_iff_eq]at h
 obtain⟨⟨⟨⟨⟨k1,k2⟩,k3⟩,k4⟩,k5⟩,k6⟩:=h
 refine⟨k1,k2,λy hy hl=>(k3 y hy).resolve_left λz=>z hl,λy hy hf=> ?_,k5,by rw[h2];exact k6⟩
 have z:=k4 y hy
 show X.env.scope.names.lookup y.1=_\/X.env.scope.names.lookup y.1=_
 rw[h1]
 rcases z with(z | z) | z
 ·exact absurd hf z
 ·exact .inl z
 ·exact .inr z
structure MS(K:W.Frag)(C:Addr):Prop where
 ga:W.findIn K (.ref C) "__getattribute__"=some (some (.builtin "BaseException.__getattribute__"))
 gt:W.findIn K (.ref C) "__getattr__"=some none
 be:W.mroIn K C (.type "BaseException")=some true
 cl:W.isClsIn K C=true
 ha:W.findIn K (.ref C) "__class__"=some (some (.builtin "object.__class__"))
 hn:W.specialIn K (.builtin "object.__class__") "__get__"=some (some (.builtin "getset_descriptor.__get__"))
 tk:W.takesIn K (.builtin "object.__class__")=some true
 mr:W.mroIn K C (.type "object")=some true
theorem jI{K:W.Frag}{C:Addr}{od:Option Obj}{name:Str}{a g:Value}(hc:(W.clsIn K C).isSome=true)(ha:W.findIn K (.ref C) name=some (some a))(hg:W.specialIn K a "__get__"=some (some g))(ht:W.takesIn K a=some true) :
  W.findObj K C od name=some (.bind g a):=by
 obtain⟨cd,hc⟩:=Option.isSome_iff_exists.mp hc
 unfold W.findObj
 rw[hc,Option.bind_some,ha,Option.bind_some]
 simp[hg,ht]
theorem jJ{K:W.Frag}{M:Model}{A:Around}{E:Value->Shared->Prop}{Q:Unit->Shared->Prop}{s:Shared}{x D:Addr}{ox:Obj}{nm:Value}(c:MS K D)(X:K.In s.heap)(I:W.InstAt s.heap x ox D none)(k:Q () s) :
  wpAny M A (checkBuiltinCall "BaseException.__getattribute__" ⟨[.ref x,nm],[]⟩) Q E s:=by
 have e1:builtinKind "BaseException.__getattribute__"=some .slot:=by decide +kernel
 have e2:splitId "BaseException.__getattribute__"=some ("BaseException","__getattribute__"):=by decide +kernel
 have L:W.Looks M s.heap (isInstance (.ref x) (.type "BaseException")) true:=(I.type (M:=M)).andThen (W.looks_mroIn (M:=M) X c.be)
 have ar:=PySem.F.args_bexc_ga (.ref x) nm
 obtain⟨hh,g,d,t,os⟩:=s
 simp only[checkBuiltinCall,e1,e2]
 refine wpAny_bind (L.at ?_)
 simp only[Bool.not_true,Bool.false_eq_true,if_false]
 cases hs:Manifest.signature? "BaseException.__getattribute__" with
 | none=>exact wpAny_pure k
 | some sig =>
  simp only[argsOk,hs]at ar
  have z:Bind.checkArgs "BaseException.__getattribute__" sig ⟨[.ref x,nm],[]⟩=pure ():=ar
  show wpAny M A (Bind.checkArgs "BaseException.__getattribute__" sig ⟨[.ref x,nm],[]⟩) Q E _
  rw[z];exact wpAny_pure k
theorem jK{K:W.Frag}{prog:Program}{w:World}{A:Around}{E:Value->Shared->Prop}{Q:Option Value->Shared->Prop}{s:Shared}{x D:Addr}{ox:Obj}(c:MS K D)(X:K.In s.heap)(I:W.InstAt s.heap x ox D none)
  (k:Q (some (.ref D)) { s with toks:=s.toks+1 }):wpAny (model prog w) A (getAttr? (.ref x) "__class__") Q E s:=by
 obtain⟨hh,g,d,t,os⟩:=s
 have L0:=I.type (M:=model prog w)
 have L1:=W.looks_findIn (M:=model prog w) X c.ga
 have L2:=W.looks_findIn (M:=model prog w) X c.gt
 have L3:=W.looks_find (M:=model prog w) X I (jI (name:="__class__") c.cl c.ha c.hn c.tk)
 unfold getAttr? getAttrBy? getAttrBy
 refine wpAny_bind (wpAny_mkText (wpAny_bind (wpAny_attempt (wpAny_holding (wpAny_bind (L0.at (wpAny_bind (L1.at ?_))))))))
 show wpAny _ _ (getAttrByItsOwn _ _ _ _ _ _) _ _ _
 unfold getAttrByItsOwn
 refine wpAny_bind (L2.at (wpAny_bind (wpAny_attempt (wpAny_holding ?_))))
 show wpAny _ _ (boundAndCalled _ _ _) _ _ _
 unfold boundAndCalled
 rw[PySem.F.attr_ValueError.ga.bind (.ref x)]
 refine wpAny_bind (wpAny_pure (wpAny_call (codeAny_call_builtin PySem.F.attr_ValueError.ga.plain PySem.F.entry_bexc_ga (jJ c X I ?_))))
 refine wpAny_bind (wpAny_pure (wpAny_bind (wpAny_pure (wpAny_bind (L0.at (wpAny_bind (L3.at ?_)))))))
 show wpAny _ _ (holding [_] (call _ _) >>= ret) _ _ _
 refine wpAny_bind (wpAny_holding (wpAny_call (W.class_get (ox:=ox) (od:=none) X I c.mr (wpAny_pure ?_))))
 exact W.handed_on rfl (wpAny_pure k)
theorem jL{K:W.Frag}{x D:Addr}(c:MS K D):W.KitX K (.ref x) (.ref D) (KO x (.ref D)):=by
 have inst:∀ {h:Heap},KO x (.ref D) h->∃ ox,W.InstAt h x ox D none:=λ{h} ⟨oe,vs,e1,e2,e3,e4⟩=>by
  refine⟨oe,e1,e2,?_,?_⟩
  ·unfold W.notCls;rw[e4]
  ·rw[e3];trivial
 have cls:∃ cd,W.clsIn K D=some cd:=Option.isSome_iff_exists.mp c.cl
 refine⟨λM h _ p=>(inst p).elim λ_ I=>I.type,λM h X p=> ?_,λh tp dd its n sl X htp=> ?_,λ{prog w A E Q s} X p k=> ?_⟩
 ·obtain⟨cd,hc⟩:=cls
  unfold W.clsIn at hc
  split at hc
  ·rename_i c' d' cd' sl' ho
   intro A' Q' E' s' k q
   unfold isType loadHead
   exact wpAny_bind (wpAny_loadPart (k _ _ (X _ _ ho)) (wpAny_pure q))
  ·cases hc
 ·obtain⟨cd,hc⟩:=cls
  refine Bool.eq_false_iff.mpr λq=> ?_
  have e:D=tp:=Value.ref.inj (beq_iff_eq.mp q)
  subst e
  unfold W.clsIn at hc
  split at hc
  ·rename_i c' d' cd' sl' ho
   have z:=(X _ _ ho).symm.trans htp
   cases z
  ·cases hc
 ·obtain⟨ox,I⟩:=inst p
  exact jK c X I k
def TyX(K:W.Frag)(H:Hp)(x:V)(t:Value):Prop:=DN K H x t\/∃ a C,x=.ref a/\t=.ref C/\H a=some (.ext (KO a (.ref C)))/\MS K C
inductive ClsV:V->Value->Prop
 | own (C:Addr):ClsV (.ref C) (.ref C)
 | ty (n:String):ClsV (.ty n) (.type n)
theorem ClsV.rel{y:V}{c u:Value}(h:ClsV y c)(r:RelV y u):u=c:=by
 cases h<;>exact r
theorem VP:∀ {ys:List V} {cs us:List Value},Paired ClsV ys cs->Vals ys us->us=cs
 | _,_,_,.nil,.nil=>rfl
 | _,_,_,.cons h t,.cons r rr=>by rw[h.rel r,VP t rr]
def GK(K:W.Frag):List V->Hp->VK->Prop:=λxs H Q=>∃ x y t b,xs=[x,y]/\TyX K H x t ∧
 ((∃ c,ClsV y c/\W.kitOne K t c=some b)\/∃ p ys cs,y=.ref p/\SqT K H p ys/\Paired ClsV ys cs/\W.kitAny K t cs=some b)/\Q (.bl b) H
section
variable{X:Cx}
theorem TyX.kit{pins:List (Addr × Obj)}{σ:St}{H:Hp}{s:Shared}{x:V}{t u:Value}(I:Inv X pins σ H s)(h:TyX X.K H x t)(r:RelV x u):∃ φ :Heap->Prop,W.KitX X.K u t φ /\ φ s.heap/\u≠.builtin "__main__.__loader__#opaque":=by
 rcases h with h | ⟨a,C,rfl,rfl,e,c⟩
 ·cases h with
  | non=>cases (show u=Value.none from r);exact⟨_,W.kitx_none,trivial,λz=>nomatch z⟩
  | bl y=>cases (show u=Value.bool y from r);exact⟨_,W.kitx_bool,trivial,λz=>nomatch z⟩
  | int i=>obtain⟨t,q⟩:=(show ∃ t,u=Value.int i t from r);cases q;exact⟨_,W.kitx_int,trivial,λz=>nomatch z⟩
  | str y=>obtain⟨t,q⟩:=(show ∃ t,u=Value.str y t from r);cases q;exact⟨_,W.kitx_str,trivial,λz=>nomatch z⟩
  | flt y=>obtain⟨t,q⟩:=(show ∃ t,u=Value.float y t from r);cases q;exact⟨_,W.kitx_float,trivial,λz=>nomatch z⟩
  | @lst a xs ea =>
   cases (show u=Value.ref a from r)
   obtain⟨_,_,n,_,h1⟩:=(show ObjOk X.prog X.w H s.heap a (.lst xs)from I.hok a _ ea)
   exact⟨_,W.kitx_list,⟨_,h1,rfl⟩,λz=>nomatch z⟩
  | @frz a ob xs ea =>
   cases (show u=Value.ref a from r)
   obtain⟨_,_,_,n,_,h1⟩:=(show ObjOk X.prog X.w H s.heap a (.frz ob (.lst xs))from I.hok a _ ea)
   exact⟨_,W.kitx_list,⟨_,h1,rfl⟩,λz=>nomatch z⟩
  | @tup a xs ea =>
   cases (show u=Value.ref a from r)
   obtain⟨_,_,_,p⟩:=(show ObjOk X.prog X.w H s.heap a (.tup xs)from I.hok a _ ea)
   obtain⟨o,h1,h2,_⟩:=p
   exact⟨_,W.kitx_tuple,⟨o,h1,h2⟩,λz=>nomatch z⟩
  | @dK a kvs ea =>
   cases (show u=Value.ref a from r)
   obtain⟨_,_,vs,_,p⟩:=(show ObjOk X.prog X.w H s.heap a (.dK kvs)from I.hok a _ ea)
   obtain⟨o,es,ep,h1,h2,_⟩:=p
   exact⟨_,W.kitx_dict,⟨o,h1,h2.1⟩,λz=>nomatch z⟩
  | @dT a kvs ea =>
   cases (show u=Value.ref a from r)
   obtain⟨_,_,xs,_,o,es,ep,h1,h2,_⟩:=(show ObjOk X.prog X.w H s.heap a (.dT kvs)from I.hok a _ ea)
   exact⟨_,W.kitx_dict,⟨o,h1,h2.1⟩,λz=>nomatch z⟩
  | @ins a C dx fs ea cl ha hn htk hm =>
   cases (show u=Value.ref a from r)
   obtain⟨mA,O,_⟩:=MC I.hok ea
   obtain⟨od,J,_⟩:=O.look
   exact⟨_,W.kitx_own (cl.get _) cl.hd ha hn htk hm,J,λz=>nomatch z⟩
 ·cases (show u=Value.ref a from r)
  have p:KO a (.ref C) s.heap:=(show ObjOk X.prog X.w H s.heap a (.ext (KO a (.ref C)))from I.hok a _ e).1
  exact⟨_,jL c,p,λz=>nomatch z⟩
theorem IJ:CallR X (.builtin "isinstance") (GK X.K):=by
 intro pins s σ H xs us Q I r h
 obtain⟨x,y,t,b,rfl,ty,hc,q⟩:=h
 obtain⟨u,v,rfl,rx,ry⟩:=Vals.two r
 obtain⟨φ,Z,p,ne⟩:=ty.kit I rx
 rcases hc with⟨c,hy,e⟩ | ⟨pt,ys,cs,rfl,hs,hcs,e⟩
 ·have:=hy.rel ry
  subst this
  exact W.kia_one Z I.kIn p e ne λtk=>⟨.bl b,H,I.tok tk,rfl,q⟩
 ·cases (show v=Value.ref pt from ry)
  obtain⟨its,rv,⟨⟨c1,c2,c3,c4⟩,e1,e2,n,e3⟩,_⟩:=I.tuple hs
  obtain rfl:c1=_:=e2
  obtain rfl:c3=_:=e3
  have:=VP hcs rv
  subst this
  exact W.kia_tup Z I.kIn p e1 e ne λtk=>⟨.bl b,H,I.tok tk,rfl,q⟩
end
end L2
namespace L2
def G2(J:It)(g:TG)(tt:TT)(te:TE)(k:Nat)(cap:List Nat)(σ:St)(H1:Hp)(Q:VK):Prop :=
 ∃ W:Nat->Nat->St->List V->Hp->Prop,(∃ m,W 0 m (GH k cap σ) [] H1)/\∀ i m σ' ys H,W i m σ' ys H →
  (J.stop i H/\∀ p,H p=none->Q (.ref p) (upd H p (.lst ys))) ∨
  (J.go i H/\ys.length<sizeLine/\∀ x H',J.yld i H x H'->g x σ' H' λσ2 H2=>tt σ2 H2 λb H3 =>
   if b=true then ∃ N:VK,(∀ y H4,N y H4->∃ m',m'<m/\W (i+1) m' σ2 (ys++[y]) H4)/\te σ2 H3 N else ∃ m',m'<m/\W (i+1) m' σ2 ys H3)
def E7(J:It)(g:TG)(tb:TS)(D:Ends)(σ:St)(H1:Hp):Prop :=
 ∃ W:Nat->Nat->St->Hp->Prop,(∃ m,W 0 m σ H1)/\∀ i m σ H,W i m σ H →
  (J.stop i H/\D.nx σ H)\/(J.go i H/\∃ N:St->Hp->Prop,(∀ σ' H',N σ' H'->∃ m',m'<m/\W (i+1) m' σ' H')/\∀ x H',J.yld i H x H'->g x σ H' λσ2 H2=>tb { D with nx:=N,ct:=N,bk:=D.nx } σ2 H2)
section
variable{K:W.Frag}{ta tb tc to ti tv tl:TE}{tt tA tB' tu:TT}{s1 s2:TS}{r r':R2}{σ:St}{H:Hp}{Q:VK}{D:Ends}{QB:Bool->Hp->Prop}{as:TA}{g:TG}{gs:KF}{te:TE}{k i:Nat}{cap:List Nat}{f m:Str}{C:Addr}{sp:Sp}{dvs:List V}{E:St->XK}{v:V}{vs:List V}{QA:List V->Hp->Prop}{QG:St->Hp->Prop}{QO:Option Int->Hp->Prop}
theorem jM:AJ s1 s2 D σ H=(s1 { D with nx:=s2 D } σ H):=rfl
theorem jN:BP D σ H=(D.nx σ H):=rfl
theorem jO:d7 D σ H=(D.bk σ H):=rfl
theorem jP:d8 D σ H=(D.ct σ H):=rfl
theorem jQ:A4 ta g D σ H=(ta σ H λx H1=>g x σ H1 D.nx):=rfl
theorem jR:CY ta D σ H=(ta σ H λ_ H1=>D.nx σ H1):=rfl
theorem jS:AZ ta D σ H=(ta σ H D.rt):=rfl
theorem jT:d9 D σ H=(D.rt .non H):=rfl
theorem jU:BN tt s1 s2 D σ H=(tt σ H λb H1=>if b=true then s1 D σ H1 else s2 D σ H1):=rfl
theorem jV:tC v σ H Q=(Q v H):=rfl
theorem jW:AI r ta tb σ H Q=(ta σ H λx H1=>tb σ H1 λy H2=>r x y H2 Q):=rfl
theorem jX:CF ta σ H QB=(ta σ H λx H'=>∃ k,x=.bl k/\QB k H'):=rfl
theorem jY:IA r r' ta tb tc σ H Q=(ta σ H λx H1=>tb σ H1 λy H2=>r x y H2 λz H3=>∃ k,z=.bl k/\(if k=true then tc σ H3 λw' H4=>r' y w' H4 Q else Q (.bl false) H3)):=rfl
theorem jZ:C5 tt σ H QB=(tt σ H λc H1=>QB (!c) H1):=rfl
theorem j2:HW tt tu σ H QB=(tt σ H λc H1=>if c=true then tu σ H1 QB else QB false H1):=rfl
theorem j3:GA tt tu σ H QB=(tt σ H λc H1=>if c=true then QB true H1 else tu σ H1 QB):=rfl
theorem j4:LS ta tb σ H Q=(ta σ H λx H1=>∃ c,x=.bl c/\if c=true then tb σ H1 Q else Q (.bl false) H1):=rfl
theorem j5:NX ta tb σ H Q=(ta σ H λx H1=>∃ c,x=.bl c/\if c=true then Q (.bl true) H1 else tb σ H1 Q):=rfl
theorem j6:OR K ta σ H Q=(ta σ H λx H1=>∃ k,EG K x H1 k/\Q (.bl (!k)) H1):=rfl
theorem j7:DO K ta σ H QB=(ta σ H λx H'=>∃ k,EG K x H' k/\QB k H'):=rfl
theorem j8:dZ tt ta tb σ H Q=(tt σ H λc H1=>if c=true then ta σ H1 Q else tb σ H1 Q):=rfl
theorem j9:AE σ H QA=(QA [] H):=rfl
theorem kA:AC ta as σ H QA=(ta σ H λx H1=>as σ H1 λxs H2=>QA (x::xs) H2):=rfl
theorem kB:EZ as σ H Q=(as σ H λxs H1=>xs.length<=sizeLine/\∀ p,H1 p=none->Q (.ref p) (upd H1 p (.tup xs))):=rfl
theorem kC:CG as σ H Q=(as σ H λxs H1=>xs.length<=sizeLine/\∀ p,H1 p=none->Q (.ref p) (upd H1 p (.lst xs))):=rfl
theorem kD:BO sp dvs E as σ H Q=(as σ H λvs H1=>sp (vs++dvs) H1 Q (E σ)):=rfl
theorem kE:A5 C m sp dvs E ta as σ H Q=(ta σ H λx H1=>∃ a dx fs,x=.ref a/\H1 a=some (.ins C dx fs)/\fs.lookup m=none/\as σ H1 λvs H2=>sp (x::(vs++dvs)) H2 Q (E σ)):=rfl
theorem kF:DA C sp dvs E as σ H Q=(as σ H λvs H1=>∀ x dx,H1 x=none->H1 dx=none->dx≠x->sp (.ref x::(vs++dvs)) (upd (upd H1 dx (.own x)) x (.ins C dx [])) (λv H2=>v=.non/\Q (.ref x) H2) (E σ)):=rfl
theorem kG:BG K ta f σ H Q=(ta σ H λx H1=>∃ a C dx fs v,x=.ref a/\H1 a=some (.ins C dx fs)/\Cls K C/\NoAttr K C f/\fs.lookup f=some v/\Q v H1):=rfl
theorem kH:DU K ta tv f D σ H=(tv σ H λy H1=>ta σ H1 λx H2=>∃ a C dx fs,x=.ref a/\H2 a=some (.ins C dx fs)/\Cls K C/\NoAttr K C f/\fs.length<1000/\D.nx σ (upd H2 a (.ins C dx (A0 f y fs)))):=rfl
theorem kI{ru:V->Hp->VK->Prop}:eR ru ta σ H Q=ta σ H λx H1=>ru x H1 Q:=rfl
theorem kJ{rc:List V->Hp->VK->Prop}:BK rc as σ H Q=as σ H λvs H1=>rc vs H1 Q:=rfl
theorem kK:IF C E as D σ H=(as σ H λvs H1=>vs.length<=sizeLine/\E σ (.ref C) none H1):=rfl
theorem kL{sb:(St->XK)->TS}{th:TH}:iV sb th D σ H=sb (λσ' cls _ H'=>th cls D σ' H') D σ H:=rfl
theorem kM:AR i v σ H QG=(QG (σ.set i (some v)) H):=rfl
theorem kN{rs:LT}:LV to ti rs v σ H QG=to σ H λo H1=>ti σ H1 λi H2=>rs o i v H2 λH3=>QG σ H3:=rfl
theorem kO:eC K k gs v σ H QG=(∃ a xs,v=.ref a/\SqT K H a xs/\xs.length=k/\gs xs σ H QG):=rfl
theorem kP:eA vs σ H QG=((vs=[]/\QG σ H)):=rfl
theorem kQ:eB g gs vs σ H QG=(∃ v r,vs=v::r/\g v σ H λσ' H'=>gs r σ' H' QG):=rfl
theorem kR{rs:V->Option Int->Option Int->Hp->VK->Prop}{ol oh:TO}:N7 rs ta ol oh σ H Q=ta σ H λx H1=>ol σ H1 λl H2=>oh σ H2 λu H3=>rs x l u H3 Q:=rfl
theorem kS:gG σ H QO=(QO none H):=rfl
theorem kT:MF ta σ H QO=(ta σ H λx H1=>∃ i,x=.int i/\QO (some i) H1):=rfl
theorem kU{T:String}{rm:V->List V->Hp->VK->Prop}:EQ K T rm ta as σ H Q=ta σ H λx H1=>KI K T x H1/\as σ H1 λxs H2=>rm x xs H2 Q:=rfl
theorem kW{T:String}{rm:V->List V->Hp->VK->Prop}:gZ K T rm ta σ H Q=ta σ H λx H1=>KI K T x H1/\rm x [] H1 Q:=rfl
theorem kX{tip:LU}:eD i ta tip D σ H=∃ x,σ[i]? =some (some x)/\ta σ H λy H1=>tip x y H1 λz H2=>D.nx (σ.set i (some z)) H2:=rfl
theorem kY:G0 σ H QB=(QB true H):=rfl
theorem kZ:E5 (DI as) g tt te k cap σ H Q=(as σ H λvs H1=>∃ j:Int,vs=[.int j]/\ -(2 ^ 62)<=j/\j<2 ^ 62/\G2 (DS 0 j.toNat) g tt te k cap σ H1 Q):=rfl
theorem k9:E5 (TM as) g tt te k cap σ H Q=(as σ H λvs H1=>∃ i j:Int,vs=[.int i,.int j]/\(-(2 ^ 62)<=i/\i<2 ^ 62/\ -(2 ^ 62)<=j/\j<2 ^ 62)/\G2 (DS i (j - i).toNat) g tt te k cap σ H1 Q):=rfl
theorem lA:E5 (DP K tl) g tt te k cap σ H Q=(tl σ H λx H1=>∃ a,x=.ref a/\(((∃ xs,SqL K H1 a xs)/\G2 (FI K a) g tt te k cap σ H1 Q)\/((∃ xs,SqT K H1 a xs)/\G2 (GB K a) g tt te k cap σ H1 Q))):=rfl
theorem lB:CD (DI as) g s1 D σ H=(as σ H λvs H1=>∃ j:Int,vs=[.int j]/\ -(2 ^ 62)<=j/\j<2 ^ 62/\E7 (DS 0 j.toNat) g s1 D σ H1):=rfl
theorem lC:CD (TM as) g s1 D σ H=(as σ H λvs H1=>∃ i j:Int,vs=[.int i,.int j]/\(-(2 ^ 62)<=i/\i<2 ^ 62/\ -(2 ^ 62)<=j/\j<2 ^ 62)/\E7 (DS i (j - i).toNat) g s1 D σ H1):=rfl
theorem lD:CD (DP K tl) g s1 D σ H=(tl σ H λx H1=>∃ a,x=.ref a/\(((∃ xs,SqL K H1 a xs)/\E7 (FI K a) g s1 D σ H1)\/((∃ xs,SqT K H1 a xs)/\E7 (GB K a) g s1 D σ H1))):=rfl
theorem lE{rd:V->V->Hp->VK->Prop}:ME K ta tv rd f D σ H=(ta σ H λx H1=>∃ a C dx fs v,x=.ref a/\H1 a=some (.ins C dx fs)/\Cls K C/\NoAttr K C f/\fs.lookup f=some v/\tv σ H1 λy H2=>rd v y H2 λz H3=>∃ dx' fs',H3 a=some (.ins C dx' fs')/\fs'.length<1000/\D.nx σ (upd H3 a (.ins C dx' (A0 f z fs')))):=rfl
end
end L2
namespace L2
section
variable{K:W.Frag}{σ:St}{H:Hp}{Q:VK}{P:Bool->Prop}{PI':Int->Prop}{PV:V->Prop}{QB:Bool->Hp->Prop}{v:V}{x:Option V}{i j:Int}{n:Nat}{b b':Bool}{s s':Str}{p q:Addr}{f:Int->Int->V}{C:Int->Int->Prop}
def AA(i:Nat):TE:=λσ H Q=>match σ[i]? with
 | some (some v)=>Q v H
 | _=>False
theorem lF:AA 0 (some v::σ) H Q=Q v H:=rfl
theorem lG:AA (n+1) (x::σ) H Q=AA n σ H Q:=rfl
theorem lH(i:Nat):AA i=NW i:=by
 funext σ H Q
 unfold AA NW
 cases σ[i]? with
 | none=>simp
 | some o=>cases o<;>simp
theorem lI{P:Bool->Prop}:(∃ k,V.bl b=V.bl k/\P k)=P b:=by simp
theorem lJ{P:Int->Prop}:(∃ k,V.int i=V.int k/\P k)=P i:=by simp
theorem lK{P:Addr->Prop}:(∃ k,V.ref p=V.ref k/\P k)=P p:=by simp
theorem lL{P:Bool->Prop}:(∃ k,EG K (.bl b) H k/\P k)=P b:=by simp[EG]
theorem lM{P:Bool->Prop}:(∃ k,EG K (.int i) H k/\P k)=P (i != 0):=by simp[EG]
theorem lN{P:Bool->Prop}:(∃ k,EG K .non H k/\P k)=P false:=by simp[EG]
theorem lO:C2 K (.int i) (.int j) H Q=Q (.int (i+j)) H:=rfl
theorem lP:C2 K (.str s) (.str s') H Q=(s.length+s'.length<=sizeLine/\Q (.str (s++s')) H):=rfl
theorem lQ:C2 K (.ref p) (.ref q) H Q=(OA (.ref p) (.ref q) H Q\/N8 K (.ref p) (.ref q) H Q\/ON K (.ref p) (.ref q) H Q):=rfl
theorem lR{x y:Str}:GI (.str x) (.str y) H Q=Q (.bl (!decide (y.cps.toList<x.cps.toList))) H:=rfl
theorem lS{x y:Str}:E6 (.str x) (.str y) H Q=Q (.bl (decide (x.cps.toList<y.cps.toList))) H:=rfl
theorem lT{x:Str}{lo hi:Option Int}:MR K (.str x) lo hi H Q=(x.length<=sizeLine/\Q (.str (Txt.slice x lo hi)) H):=rfl
theorem lU:ES K (.int i) (.int j) H Q=(CMul i j/\Q (.int (i * j)) H):=rfl
theorem lV{z:Str}{j:Int}:ES K (.str z) (.int j) H Q=(0<=j/\j<=1000/\z.length<=1000/\Q (.str (MN z j)) H):=rfl
theorem lW:ES K (.ref p) (.int j) H Q=(OB (.ref p) (.int j) H Q\/OO K (.ref p) (.int j) H Q):=rfl
theorem lX:EY f (.int i) (.int j) H Q=Q (f i j) H:=by simp[EY]
theorem lY:rI C f (.int i) (.int j) H Q=(C i j/\Q (f i j) H):=by simp[rI]
theorem lZ{g:Int->V}:rU g (.int i) H Q=Q (g i) H:=by simp[rU]
theorem l6:E6 (.int i) (.int j) H Q=Q (.bl (decide (i<j))) H:=rfl
theorem l8:GI (.int i) (.int j) H Q=Q (.bl (decide (i<=j))) H:=rfl
theorem l9:MO (.int i) (.int j) H Q=Q (.bl (decide (j<i))) H:=rfl
theorem mB:jC (.int i) (.int j) H Q=Q (.bl (decide (j<=i))) H:=rfl
theorem mC:BZ K (.int i) (.int j) H Q=Q (.bl (decide (i=j))) H:=by simp[BZ,CZ]
theorem mD:BZ K (.str s) (.str s') H Q=Q (.bl (decide (s=s'))) H:=by simp[BZ,CZ]
theorem mE:BZ K (.bl b) (.bl b') H Q=Q (.bl (decide (b=b'))) H:=by simp[BZ,CZ]
theorem mF:BZ K .non (.int j) H Q=Q (.bl false) H:=by simp[BZ,CZ]
theorem mG:BZ K (.int j) .non H Q=Q (.bl false) H:=by simp[BZ,CZ]
theorem mH:BZ K .non .non H Q=Q (.bl true) H:=by simp[BZ,CZ]
theorem mI:BQ K (.int i) (.int j) H Q=Q (.bl (!decide (i=j))) H:=by simp[BQ,CZ]
theorem mJ:BQ K (.str s) (.str s') H Q=Q (.bl (!decide (s=s'))) H:=by simp[BQ,CZ]
theorem mK:BQ K (.bl b) (.bl b') H Q=Q (.bl (!decide (b=b'))) H:=by simp[BQ,CZ]
theorem mM:BQ K .non (.int j) H Q=Q (.bl true) H:=by simp[BQ,CZ]
theorem mO:BQ K (.int j) .non H Q=Q (.bl true) H:=by simp[BQ,CZ]
theorem mP:BQ K .non .non H Q=Q (.bl false) H:=by simp[BQ,CZ]
theorem mQ:MQ v .non H Q=Q (.bl (decide (v=.non))) H:=by simp[MQ]
theorem mR:VL v .non H Q=Q (.bl (!decide (v=.non))) H:=by simp[VL]
theorem mS{g:Int->Int->Int}:NZ g (.int i) (.int j) H Q=Q (.int (g i j)) H:=by simp[NZ]
theorem mT:KH (.int i) (.int j) H Q=Q (.int (i+j)) H:=by simp[KH]
theorem mU:DC K [v] H Q=∃ n:Nat,N3 K v H n/\Q (.int n) H:=by simp[DC]
theorem mV:G1 K [.bl b] H Q=Q (.int (if b then 1 else 0)) H:=by simp[G1]
theorem mW:G1 K [.int i] H Q=Q (.int i) H:=by simp[G1]
theorem VQ:FQ K [.ref p] H Q=∃ ys,(SqL K H p ys\/SqT K H p ys)/\∀ l,H l=none->Q (.ref l) (upd H l (.lst ys)):=by simp[FQ]
theorem mX:II K [.ref p] H Q=∃ ys,((SqL K H p ys/\∀ l,H l=none->Q (.ref l) (upd H l (.tup ys)))\/(SqT K H p ys/\Q (.ref p) H)):=by simp[II]
end
theorem AB{X:Cx}(i:Nat){x:Str}{pos:Pos}(hN:X.N[i]? =some x:=by rfl)(hv:NV X.env.scope x:=by first | exact Or.inl rfl | exact Or.inr (Or.inl rfl) | exact Or.inr (Or.inr rfl))(hd:(x ==("__debug__":Str))=false:=by decide)
  (hcd:(x ==("__classdict__":Str))=false:=by decide):PE X (.Name x pos) (AA i):=by
 rw[lH]
 exact dS hN hv hd hcd
end L2
namespace L2
abbrev BB(Q:VK):Ends:={ nx:=λ_ H'=>Q .non H',rt:=Q }
abbrev E8(cap:List Nat)(σ:St):St:=cap.map λi=>(σ[i]?).join
section
variable{K:W.Frag}{te:TE}{cap:List Nat}{σ:St}{H:Hp}{Q:VK}
theorem OS{lo:Int}{n:Nat}(hn:n<=sizeLine)(Pv:Nat->List V->Hp->Prop)(h0:Pv 0 [] H)(hs:∀ i ys H,i<n->ys.length=i->Pv i ys H->te (some (.int (lo+i))::E8 cap σ) H λy H2=>Pv (i+1) (ys++[y]) H2)
  (hd:∀ ys H,ys.length=n->Pv n ys H->∀ p,H p=none->Q (.ref p) (upd H p (.lst ys))) :
  G2 (DS lo n) (AR 0) G0 te 1 cap σ H Q:=by
 refine⟨λi m σ' ys H=>m=n - i/\i<=n/\ys.length=i/\(∃ x0,σ'=x0::E8 cap σ)/\Pv i ys H,⟨n,by simp,Nat.zero_le _,rfl,⟨none,rfl⟩,h0⟩,?_⟩
 rintro i m σ' ys H ⟨rfl,hi,hl,⟨x0,rfl⟩,p⟩
 by_cases hlt:i<n
 ·refine .inr ⟨hlt,by omega,λx H' y=> ?_⟩
  obtain⟨e,y⟩:=y
  subst e y
  simp only[AR,G0,if_true]
  refine⟨_,λy H4 q=>⟨n - (i+1),by omega,rfl,hlt,?_,⟨_,rfl⟩,q⟩,hs i ys _ hlt hl p⟩
  rw[List.length_append,List.length_singleton,hl]
 ·have e:i=n:=by omega
  subst e
  exact .inl ⟨Nat.le_refl _,hd ys H hl p⟩
theorem E9{b:Addr}{xs:List V}{g:TG}{tb:TS}{D:Ends}(Pv:Nat->St->Hp->Prop)(h0:Pv 0 σ H)(hl:∀ i σ H,i<=xs.length->Pv i σ H->SqL K H b xs)
  (hs:∀ i x σ H,xs[i]? =some x->Pv i σ H->g x σ H λσ2 H2=>tb { D with nx:=Pv (i+1),ct:=Pv (i+1),bk:=D.nx } σ2 H2) (hd:∀ σ H,Pv xs.length σ H->D.nx σ H):E7 (FI K b) g tb D σ H:=eM Pv h0 hl hs hd
theorem mY{b:Addr}{xs:List V}{g:TG}{tb:TS}{D:Ends}(Pv:Nat->St->Hp->Prop)(h0:Pv 0 σ H)(hl:∀ i σ H,i<=xs.length->Pv i σ H->SqT K H b xs)
  (hs:∀ i x σ H,xs[i]? =some x->Pv i σ H->g x σ H λσ2 H2=>tb { D with nx:=Pv (i+1),ct:=Pv (i+1),bk:=D.nx } σ2 H2) (hd:∀ σ H,Pv xs.length σ H->D.nx σ H):E7 (GB K b) g tb D σ H:=eO Pv h0 hl hs hd
theorem FR{lo:Int}{n:Nat}{g:TG}{tb:TS}{D:Ends}(Pv:Nat->St->Hp->Prop)(h0:Pv 0 σ H)
  (hs:∀ i σ H,i<n->Pv i σ H->g (.int (lo+i)) σ H λσ2 H2=>tb { D with nx:=Pv (i+1),ct:=Pv (i+1),bk:=D.nx } σ2 H2) (hd:∀ σ H,Pv n σ H->D.nx σ H):E7 (DS lo n) g tb D σ H:=eP Pv h0 hs hd
end
theorem FS{K:W.Frag}{H:Hp}{x y:V}{t c:Value}{b:Bool}{Q:VK}(ty:TyX K H x t)(cv:ClsV y c)(k:W.kitOne K t c=some b)(q:Q (.bl b) H):GK K [x,y] H Q:=⟨x,y,t,b,rfl,ty,.inl ⟨c,cv,k⟩,q⟩
theorem AW{H:Hp}{p:Addr}{o:HO}(h:H p=none):Same H (upd H p o):=λb u e=>by rw[AH (AY e h)];exact e
theorem MT{α β :Type}{F: α -> β ->Prop}:∀ {l:List α} {m:List β} {i:Nat} {y: β},Paired F l m->m[i]? =some y->∃ x,l[i]? =some x/\F x y
 | _,_,_,_,.nil,e=>by simp at e
 | _,_,0,_,.cons r _,e=>by simp at e;subst e;exact⟨_,rfl,r⟩
 | _,_,i+1,y,.cons _ t,e=>by
  obtain⟨u,h1,h2⟩:=MT (i:=i) (y:=y) t (by simpa using e)
  exact⟨u,by simpa using h1,h2⟩
theorem VR{α β :Type}{F: α -> β ->Prop}{x: α}{y: β}(r:F x y):∀ {l:List α} {m:List β} (i:Nat),Paired F l m->Paired F (l.set i x) (m.set i y)
 | _,_,_,.nil=>.nil
 | _,_,0,.cons _ t=>.cons r t
 | _,_,i+1,.cons q t=>.cons q (VR r i t)
theorem A7{K:W.Frag}{H:Hp}{p:Addr}{xs:List V}{i:Int}{n:Nat}{v:V}{Q:VK}(h:SqL K H p xs)(hi:i=n)(hx:xs[n]? =some v)(q:Q v H):AT K (.ref p) (.int i) H Q :=
 .inl ⟨p,xs,i,v,rfl,rfl,h,hi ▸ UP hx,q⟩
theorem G3(n:Nat)(h:n<=100000):n<=sizeLine:=Nat.le_trans h (by decide)
theorem VS{α :Type}(x: α):∀ w:Nat,(List.replicate w [x]).flatten=List.replicate w x
 | 0=>rfl
 | w+1=>by rw[List.replicate_succ,List.flatten_cons,VS x w];rfl
theorem OT{f:Str}{v:V}{fs:List (Str × V)}{n:Nat}(h:fs.length+1<n):(A0 f v fs).length<n:=Nat.lt_of_le_of_lt (MB f v fs) h
theorem mZ:N2 10 30:=⟨by decide,by decide,by decide⟩
theorem VT{d:PyData}(h:shp d):PyData.eqv d d=true:=PySem.SeqAt.eqv_refl d (PySem.SeqAt.canLay_of_shaped h)
end L2
namespace L2
def ItK(k:Bool)(h:Heap)(j a:Addr)(i:Nat):Prop:=if k then h.IsListIter j a i else h.IsTupleIter j a i
def SeqK(k:Bool)(h:Heap)(a:Addr)(xs:Array Value):Prop:=if k then h.IsList a xs else h.IsTuple a xs
theorem ItK.up{k:Bool}{h h':Heap}{j a:Addr}{i:Nat}(x:ItK k h j a i)(q:∀ o,h.get? j=some o->h'.get? j=some o):ItK k h' j a i:=by
 cases k<;>exact(let ⟨o,e,r⟩:=x;⟨o,q o e,r⟩)
theorem SeqK.up{k:Bool}{h h':Heap}{a:Addr}{xs:Array Value}(x:SeqK k h a xs)(q:∀ o,h.get? a=some o->h'.get? a=some o):SeqK k h' a xs:=by
 cases k<;>exact(let ⟨o,e,r⟩:=x;⟨o,q o e,r⟩)
theorem ItK.ob{k:Bool}{h:Heap}{j a:Addr}{i:Nat}(x:ItK k h j a i):∃ o,h.get? j=some o/\o.data=.fields #[.ref a,.int i 0]:=by
 cases k<;>exact(let ⟨o,e,_,r⟩:=x;⟨o,e,r⟩)
section
variable{P:Program}{w:World}{A:Around}{E:Value->Shared->Prop}{s:Shared}
end
section
variable{P:Program}{w:World}{A:Around}{E:Value->Shared->Prop}{s:Shared}
end
def SqB(K:W.Frag)(k:Bool)(H:Hp)(a:Addr)(xs:List V):Prop:=if k then SqL K H a xs else SqT K H a xs
theorem SeqK.lt{k:Bool}{h:Heap}{a:Addr}{xs:Array Value}(x:SeqK k h a xs):a<h.objs.size:=by
 cases k<;>exact(let ⟨_,e,_⟩:=x;Heap.lt_size e)
theorem SeqK.nit{k:Bool}{h:Heap}{a b:Addr}{xs:Array Value}(x:SeqK k h a xs){o:Obj}(e:h.get? b=some o)(n:∀ its m,o.data≠.seq its m):a≠b:=by
 intro z
 subst z
 cases k<;>(obtain⟨o',e',_,m,d⟩:=x;rw[e]at e';cases e';exact n _ _ d)
def ZipSt(k k':Bool)(z l l':Addr)(f:Value)(i:Nat)(h:Heap)(T U j j':Addr):Prop :=
 IsZip h z T U f/\IsPair h T (.ref j) (.ref j')/\(∃ a b,IsPair h U a b)/\ItK k h j l i/\ItK k' h j' l' i
structure Five(z T U j j':Addr):Prop where
 a1:T≠z
 a2:U≠z
 a3:j≠z
 a4:j'≠z
 a5:T≠U
 a6:T≠j
 a7:T≠j'
 a8:U≠j
 a9:U≠j'
 a10:j≠j'
theorem SqB.off{X:Cx}{pins:List (Addr × Obj)}{σ:St}{H:Hp}{s:Shared}{k:Bool}{m b:Addr}{zs:List V}(I:Inv X pins σ H s)(q:SqB X.K k H m zs)(f:FpOk X pins H b):m≠b:=by
 intro e
 subst e
 obtain⟨f0,_,_,f3,_⟩:=f
 have no:∀ o,X.K.lookup m=some o->False:=λo hk=>by
  have e:=I.mod.kin m o hk
  rcases f3 with z | z
  ·exact I.ok.noex _ _ e z
  ·exact absurd (Heap.lt_size (I.ok.bs _ _ e).1) (Nat.not_lt.mpr z)
 have nr:∀ u,Rd H m u->False:=λu r=>by
  rcases r with r | ⟨o,r⟩<;>(rw[f0]at r;cases r)
 cases k
 ·rcases q with q | ⟨o,_,_,hk,_⟩
  ·exact nr _ q
  ·exact no o hk
 ·rcases q with q | ⟨o,_,_,hk,_⟩
  ·exact nr _ q
  ·exact no o hk
theorem FpOk.upd{X:Cx}{pins:List (Addr × Obj)}{H:Hp}{a b:Addr}{o:HO}(f:FpOk X pins H b)(n:b≠a):FpOk X pins (upd H a o) b:=⟨(AH n).trans f.1,f.2⟩
theorem ZipSt.lt{k k':Bool}{z l l' T U j j':Addr}{f:Value}{i:Nat}{h:Heap}(q:ZipSt k k' z l l' f i h T U j j'):∀ b∈[z,T,U,j,j'],b<h.objs.size:=by
 obtain⟨h1,h2,⟨a,b',h3⟩,h4,h5⟩:=q
 obtain⟨o4,e4,_⟩:=h4.ob
 obtain⟨o5,e5,_⟩:=h5.ob
 intro b hb
 simp only[List.mem_cons,List.not_mem_nil,or_false]at hb
 rcases hb with rfl | rfl | rfl | rfl | rfl
 ·exact Heap.lt_size h1
 ·exact Heap.lt_size h2
 ·exact Heap.lt_size h3
 ·exact Heap.lt_size e4
 ·exact Heap.lt_size e5
theorem Five.apart{z T U j j' l l':Addr}(D:Five z T U j j')(n:∀ b∈[z,T,U,j,j'],l≠b)(n':∀ b∈[z,T,U,j,j'],l'≠b):ZipApart z T U j j' l l' :=
 ⟨D.a1,D.a2,D.a3,D.a4,D.a5,D.a6,D.a7,D.a8,D.a9,D.a10,n _ (by simp),n _ (by simp),n _ (by simp),n _ (by simp),n' _ (by simp),n' _ (by simp),n' _ (by simp),n' _ (by simp)⟩
section
variable{X:Cx}{tg:Expr}
end
theorem Fun.none{P:Program}{w:World}{K:W.Frag}{mg:Str->Option Value}{base:Heap}{x qual:Str}{st:Stmt}{f:Addr}{fd:FuncData}{N ps:List Str}{k:Nat}{sp:Sp}(F:Fun K x qual st f fd)(S:FnScope N ps (AO st))(no:∀ vs H Q E,sp vs H Q E->False):FnOk P w K mg base (CS P w) (k+1) f fd ps sp :=
 F.okE S (λvs H Q E h=>(no vs H Q E h).elim) λ_ _ _ _ H vs Q E _ h=>(no vs H Q E h).elim
end L2
namespace L2
section
variable{X:Cx}{tg:Expr}
def OU(K:W.Frag):List V->Hp->VK->Prop:=λxs H Q=>∃ i j,xs=[.int i,.int j]/\Q (.int (if j > i then j else i)) H
theorem m4(hc:X.calm=true):CallR X (.builtin "max") (OU X.K):=fJ hc
end
theorem m6{K:W.Frag}{i j:Int}{H:Hp}{Q:VK}:OU K [.int i,.int j] H Q=Q (.int (if j > i then j else i)) H:=propext ⟨λ⟨_,_,e,q⟩=>by cases e;exact q,λq=>⟨_,_,rfl,q⟩⟩
section
variable{P:Program}{w:World}{A:Around}{E:Value->Shared->Prop}{s:Shared}
end
section
variable{X:Cx}
def VU(k:Nat):List V:=(List.range k).map λ(i:Nat)=>V.int (i:Int)
end
end L2
namespace L2
open PySem
abbrev FA(l:List Nat):Prop:=l.Pairwise (· <·)
theorem KS{l:List Nat}(R:FA l){i k a b:Nat}(h:i<k)(ha:l[i]? =some a)(hb:l[k]? =some b):a<b:=by
 obtain⟨h1,rfl⟩:=List.getElem?_eq_some_iff.mp ha
 obtain⟨h2,rfl⟩:=List.getElem?_eq_some_iff.mp hb
 exact List.pairwise_iff_getElem.mp R i k h1 h2 h
structure Below(xs:Array Nat)(j r:Nat):Prop where
 le:r<=xs.size
 lo:∀ i v,i<r->xs.toList[i]? =some v->v<j
 hi:∀ i v,r<=i->xs.toList[i]? =some v->j<=v
theorem OV{xs:Array Nat}{j:Nat}(R:FA xs.toList):∀ (fuel lo hi:Nat),lo<=hi->hi<=xs.size->hi - lo<=fuel->(∀ i v,i<lo->xs.toList[i]? =some v->v<j)->(∀ i v,hi<=i->xs.toList[i]? =some v->j<=v) →
  Below xs j (SetTable.below.go xs j fuel lo hi)
 | 0,lo,hi,h1,h2,h3,a,b=>by
  have e:lo=hi:=by omega
  subst e
  exact⟨h2,a,b⟩
 | fuel+1,lo,hi,h1,h2,h3,a,b=>by
  unfold SetTable.below.go
  by_cases hlt:lo<hi
  ·rw[if_pos hlt]
   have hm:(lo+hi) / 2<xs.size:=by omega
   have em:xs.toList[(lo+hi) / 2]? =some (xs[(lo+hi) / 2]):=by simp[hm]
   have ed:xs.getD ((lo+hi) / 2) j=xs[(lo+hi) / 2]:=by simp[hm]
   simp only[ed]
   split
   ·rename_i hv
    refine OV R fuel _ _ (by omega) h2 (by omega) (λi v hi' e=> ?_) b
    by_cases q:i=(lo+hi) / 2
    ·subst q;rw[em]at e;cases e;exact hv
    ·exact Nat.lt_trans (KS R (show i<(lo+hi) / 2 by omega) e em) hv
   ·rename_i hv
    refine OV R fuel _ _ (by omega) (by omega) (by omega) a λi v hi' e=> ?_
    by_cases q:i=(lo+hi) / 2
    ·subst q;rw[em]at e;cases e;omega
    ·have:=KS R (show(lo+hi) / 2<i by omega) em e
     omega
  ·rw[if_neg hlt]
   have e:lo=hi:=by omega
   subst e
   exact⟨h2,a,b⟩
theorem OW{xs:Array Nat}{j:Nat}(R:FA xs.toList):Below xs j (SetTable.below xs j) :=
 OV R _ _ _ (Nat.zero_le _) (Nat.le_refl _) (by omega) (λ_ _ h=>absurd h (Nat.not_lt_zero _)) λi v h e=>by
  rw[List.getElem?_eq_none (by simpa using h)]at e;cases e
theorem Below.uniq{xs:Array Nat}{j r r':Nat}(a:Below xs j r)(b:Below xs j r'):r=r':=by
 rcases Nat.lt_trichotomy r r' with h | h | h
 ·have hs:r<xs.size:=Nat.lt_of_lt_of_le h b.le
  have e:xs.toList[r]? =some (xs[r]):=by simp[hs]
  have:=b.lo _ _ h e
  have:=a.hi _ _ (Nat.le_refl _) e
  omega
 ·exact h
 ·have hs:r'<xs.size:=Nat.lt_of_lt_of_le h a.le
  have e:xs.toList[r']? =some (xs[r']):=by simp[hs]
  have:=a.lo _ _ h e
  have:=b.hi _ _ (Nat.le_refl _) e
  omega
def NotIn(t:SetTable)(j:Nat):Prop:=t.place[SetTable.below t.place j]? ≠some j
theorem m8{t:SetTable}{j:Nat}(h:t.slot j=.empty):NotIn t j:=λe=>by
 unfold SetTable.slot at h
 simp only[e,beq_self_eq_true,if_true]at h
 cases h
theorem m9{t:SetTable}{j:Nat}(h:t.slot j=.dummy):NotIn t j:=λe=>by
 unfold SetTable.slot at h
 simp only[e,beq_self_eq_true,if_true]at h
 cases h
theorem VV(t:SetTable)(p:SetTable.Probe):(t.advance p).dummy=p.dummy:=by
 unfold SetTable.advance
 split<;>rfl
theorem OX{t:SetTable}{f:Nat->Int}{h:Int}:∀ (fuel:Nat) (p:SetTable.Probe) (j:Nat) (d:Option Nat),SetTable.probe.go t f h fuel p=some (.empty j d)->(∀ x,p.dummy=some x->NotIn t x)->NotIn t (d.getD j)
 | 0,p,j,d,e,_=>by cases e
 | fuel+1,p,j,d,e,hd=>by
  unfold SetTable.probe.go at e
  split at e
  ·rename_i hs
   cases e
   cases q:p.dummy with
   | none=>exact m8 hs
   | some x=>exact hd x q
  ·rename_i hs
   refine OX fuel _ j d e λx hx=> ?_
   rw[VV]at hx
   cases hx
   exact m9 hs
  ·rename_i i hs
   split at e
   ·cases e
   ·exact OX fuel _ j d e λx hx=>by rw[VV]at hx;exact hd x hx
theorem nD{t:SetTable}{h:Int}{s:Nat}{b:Bool}(e:t.freeSlot h=some (s,b)):NotIn t s:=by
 unfold SetTable.freeSlot at e
 split at e
 ·rename_i j d hp
  cases e
  refine OX _ _ _ _ hp λx hx=> ?_
  cases hx
 ·cases e
theorem nE(n:Nat):FA (Array.range n).toList:=by
 rw[Array.toList_range]
 exact List.pairwise_lt_range
theorem nH {t:SetTable} {j:Nat} (R:FA t.place.toList) (h:NotIn t j):FA (t.put j).1.place.toList:=by
  have b:=OW (j:=j) R
  show FA (SetTable.insertAt t.place (SetTable.below t.place j) j).toList
  rw[SetTable.toList_insertAt]
  have hlo:∀ v∈t.place.toList.take (SetTable.below t.place j),v<j:=λv hv=>by
    obtain⟨i,hi,e⟩:=List.getElem_of_mem hv
    have hi':i<SetTable.below t.place j:=by rw[List.length_take]at hi;omega
    refine b.lo i v hi' ?_
    rw[<-e];simp only[List.getElem_take];exact List.getElem?_eq_getElem _
  have hhi:∀ v∈t.place.toList.drop (SetTable.below t.place j),j<v:=λv hv=>by
    obtain⟨i,hi,e⟩:=List.getElem_of_mem hv
    have e2:t.place.toList[SetTable.below t.place j+i]? =some v:=by
      rw[<-List.getElem?_drop,List.getElem?_eq_getElem hi,e]
    have:=b.hi _ _ (Nat.le_add_right _ _) e2
    by_cases q:j=v
    · subst q
      have z:i=0:=by
        by_cases z:i=0
        ·exact z
        · have hl:SetTable.below t.place j<t.place.toList.length:=by
            rw[List.length_drop]at hi;omega
          have e3:=List.getElem?_eq_getElem hl
          have:=KS R (show SetTable.below t.place j<SetTable.below t.place j+i by omega) e3 e2
          have:=b.hi _ _ (Nat.le_refl _) e3
          omega
      subst z
      rw[Nat.add_zero,Array.getElem?_toList]at e2
      exact absurd e2 h
    ·omega
  refine List.pairwise_append.mpr ⟨R.sublist (List.take_sublist ..),List.pairwise_cons.mpr ⟨hhi,R.sublist (List.drop_sublist ..)⟩,λx hx y hy=> ?_⟩
  rcases List.mem_cons.mp hy with rfl | hy
  ·exact hlo x hx
  ·exact Nat.lt_trans (hlo x hx) (hhi y hy)
structure Led(led:Bool)(t:SetTable):Prop where
 rise:FA t.place.toList
 led:t.led=led
theorem Led.standIn{led:Bool}{t:SetTable}(h:t.led=led)(n:Nat):Led led (t.standIn n):=⟨nE n,h⟩
theorem Led.or{led:Bool}{t:SetTable}(h:Led led t)(n:Nat):Led led (t.orStandIn n):=by
 unfold SetTable.orStandIn
 split
 ·exact h
 ·exact .standIn h.led n
theorem Led.layNew{led:Bool}{t:SetTable}(L:Led led t)(es:Array (Int × Value))(h:Int)(x:Value):Led led (layNew t es h x).2.1:=by
 unfold PySem.layNew
 split
 ·rename_i slot b e
  exact Led.or ⟨nH L.rise (nD e),L.led⟩ _
 ·exact .standIn L.led _
theorem nJ(owner:Array (Option Nat))(m:Nat):FA (((List.range m).filterMap λj=>(owner.getD j none).map (j,·)).map (·.1)):=by
 rw[List.map_filterMap]
 refine(List.pairwise_lt_range (n:=m)).filterMap _ λa b hab x hx y hy=> ?_
 simp only[Option.mem_def,Option.map_map,Option.map_eq_some_iff,Function.comp_apply]at hx hy
 obtain⟨_,_,rfl⟩:=hx
 obtain⟨_,_,rfl⟩:=hy
 exact hab
theorem Led.relayAll{led:Bool}{t:SetTable}(h:t.led=led)(L:Led led t)(es:Array (Int × Value))(wanted:Nat):Led led (relayAll t es wanted).2.1:=by
 unfold PySem.relayAll
 split
 ·rename_i t' order e
  dsimp only
  split
  ·unfold SetTable.relaid SetTable.laid at e
   simp only[Option.bind_eq_bind,Option.bind_eq_some_iff,Option.pure_def,Option.some.injEq,Prod.mk.injEq]at e
   obtain⟨owner,_,rfl,_⟩:=e
   exact⟨by simpa using nJ owner _,h⟩
  ·exact .standIn h _
 ·exact .standIn h _
theorem Led.plainOff{led:Bool}{t:SetTable}(L:Led led t):Led led { t with plain:=false }:=⟨L.rise,L.led⟩
theorem Led.fresh(led:Bool):Led led (.fresh 0 0 led):=⟨List.Pairwise.nil,rfl⟩
def IK(xs:Array Nat):Nat->Nat
 | 0=>0
 | i+1=>xs.getD i 0+1
theorem nK{xs:Array Nat}(R:FA xs.toList):∀ {i:Nat},i<=xs.size->SetTable.below xs (IK xs i)=i
 | 0,_=>(OW R).uniq ⟨Nat.zero_le _,λ_ _ h=>absurd h (Nat.not_lt_zero _),λ_ _ _ _=>Nat.zero_le _⟩
 | i+1,hi=>(OW R).uniq ⟨hi,λk v hk e=>by
   have hi':i<xs.size:=by omega
   have ei:xs.toList[i]? =some xs[i]:=by simp[hi']
   have ed:xs.getD i 0=xs[i]:=by simp[hi']
   show v<xs.getD i 0+1
   rw[ed]
   by_cases q:k=i
   ·subst q;rw[ei]at e;cases e;omega
   ·have:=KS R (show k<i by omega) e ei
    omega,λk v hk e=>by
   have hi':i<xs.size:=by omega
   have ei:xs.toList[i]? =some xs[i]:=by simp[hi']
   have ed:xs.getD i 0=xs[i]:=by simp[hi']
   show xs.getD i 0+1<=v
   rw[ed]
   exact KS R (show i<k by omega) ei e⟩
theorem VW{α :Type}(next:Nat->Nat):∀ (fuel k:Nat) (left:List α) (out:Array α),left.length=fuel->List.Perm (pickOrder.go next fuel k left out).toList (out.toList++left)
 | 0,k,left,out,h=>by
  rw[List.length_eq_zero_iff.mp h]
  unfold pickOrder.go
  simp
 | fuel+1,k,left,out,h=>by
  unfold pickOrder.go
  have hl:next k % left.length<left.length:=Nat.mod_lt _ (by omega)
  rw[List.getElem?_eq_getElem hl]
  dsimp only
  refine(VW next fuel (k+1) _ _ (by rw[List.length_eraseIdx_of_lt hl];omega)).trans ?_
  rw[Array.toList_push,List.append_assoc]
  refine List.Perm.append_left _ ?_
  rw[List.eraseIdx_eq_take_drop_succ]
  show List.Perm (left[next k % left.length]::(left.take (next k % left.length)++left.drop (next k % left.length+1))) left
  refine List.perm_middle.symm.trans ?_
  rw[<-List.drop_eq_getElem_cons hl,List.take_append_drop]
theorem nQ{α :Type}(next:Nat->Nat)(xs:Array α):List.Perm (pickOrder next xs).toList xs.toList:=by
 have:=VW next xs.size 0 xs.toList #[] (by simp)
 simpa [pickOrder]using this
end L2
namespace L2
open PySem PyProof.Rows
def G4(w:World):Bool:= !w.params.followText "set-order"
def iv:Value->Int
 | .int n _=>n
 | _=>0
def IntSet(P:Program)(w:World)(h:Heap)(a:Addr)(ms:List Int):Prop :=
 ∃ (o:Obj) (es:Array (Int × Value)) (ep:Nat) (t:SetTable),h.get? a=some o/\o.ExactSet/\o.data=.set es ep t/\ElemsOf (intKind P w) es.toList ∧
  List.Perm (es.toList.map λe=>iv e.2) ms/\es.size<scanBound/\t.fits es.size=true/\Led (G4 w) t
section
variable{P:Program}{w:World}{A:Around}{E:Value->Shared->Prop}{s:Shared}
theorem OY{es:List (Int × Value)}(h:ElemsOf (intKind P w) es){e:Int × Value}(he:e∈es):∃ t,e.2=.int (iv e.2) t:=by
 obtain⟨⟨k,hk,_⟩,_⟩:=h e he
 obtain⟨t,z⟩:=Value.isInt_shape hk
 exact⟨t,by rw[z];rfl⟩
theorem VX{es:List (Int × Value)}(h:ElemsOf (intKind P w) es){e:Int × Value}(he:e∈es){k:Int}:(intKind P w).is k e.2=true↔iv e.2=k:=by
 obtain⟨t,z⟩:=OY h he
 rw[z]
 refine⟨λq=> ?_,λq=> ?_⟩
 ·have q':Value.isInt k (.int (iv e.2) t)=true:=q
  obtain⟨t',z'⟩:=Value.isInt_shape q'
  cases z';rfl
 ·rw[<-q];exact intKind_is ..
theorem VY{es:List (Int × Value)}{ms:List Int}(h:ElemsOf (intKind P w) es)(p:List.Perm (es.map λe=>iv e.2) ms)(k:Int):k∈ms↔∃ e∈es,(intKind P w).is k e.2=true:=by
 rw[<-p.mem_iff,List.mem_map]
 exact⟨λ⟨e,he,q⟩=>⟨e,he,(VX h he).mpr q⟩,λ⟨e,he,q⟩=>⟨e,he,(VX h he).mp q⟩⟩
theorem VZ{h:Heap}{a:Addr}{o:Obj}{es es':Array (Int × Value)}{ep:Nat}{t t':SetTable}{ms:List Int}(ho:h.get? a=some o)(hex:o.ExactSet)(hd:o.data=.set es ep t)
  (hel:ElemsOf (intKind P w) es'.toList) (hp:List.Perm (es'.toList.map λe=>iv e.2) ms) (hb:es'.size<scanBound) (hf:t'.fits es'.size=true) (L:Led (G4 w) t') :
  (h.update a (Obj.putSet es' t')).get? a=some { o with data:=.set es' (ep+1) t' }/\IntSet P w (h.update a (Obj.putSet es' t')) a ms:=by
 have g:=(SetOf_store (knd:=intKind P w) (S':=λk=>es'.toList.any λe=>(intKind P w).is k e.2) ho hex hd hel (λk=>by rw[List.any_eq_true]) hb hf).1
 exact⟨g,_,es',ep+1,t',g,hex,rfl,hel,hp,hb,hf,L⟩
theorem V0{g:Bool->Sem Unit}(hg:∀ (b:Bool) (s1:Shared) (R:Unit->Shared->Prop),R () s1->wpAny (model P w) A (g b) R E s1){a:Addr}{o:Obj}{es e1:Array (Int × Value)}{ep:Nat}{t t1:SetTable}{ms:List Int}{wd:Bool}
  (ho:s.heap.get? a=some o) (hex:o.ExactSet) (hd:o.data=.set es ep t) (hel:ElemsOf (intKind P w) e1.toList) (hp:List.Perm (e1.toList.map λe=>iv e.2) ms) (hb:e1.size<scanBound) (hf:t1.fits e1.size=true) (L:Led (G4 w) t1)
  {R:Option Bool->Shared->Prop} (h:∀ h',Heap.SameBut a s.heap h'->IntSet P w h' a ms->R (some true) { s with heap:=h' }) :
  wpAny (model P w) A (do
   storeSet a e1 t1
   if(!wd && t1.tooFull)=true then do
    g (relayAll t1 e1 (SetTable.grown e1.size)).2.2
    storeSet a (relayAll t1 e1 (SetTable.grown e1.size)).1 (relayAll t1 e1 (SetTable.grown e1.size)).2.1
    pure (some true)
   else pure (some true)) R E s:=by
 refine wpAny_bind (wpAny_storeSet_of ho hd ?_ (fits_of_scanBound hb))
 obtain⟨g1,S1⟩:=VZ ho hex hd hel hp hb hf L
 have sb1:=Heap.SameBut.update s.heap a (Obj.putSet e1 t1)
 split
 ·have p2:=relayAll_perm t1 e1 (SetTable.grown e1.size)
  have f2:=relayAll_fits t1 e1 (SetTable.grown e1.size)
  have L2:=Led.relayAll L.led L e1 (SetTable.grown e1.size)
  revert p2 f2 L2
  generalize relayAll t1 e1 (SetTable.grown e1.size)=r
  obtain⟨e2,t2,gv⟩:=r
  intro p2 f2 L2
  dsimp only at p2 f2 L2 ⊢
  have z2:e2.size=e1.size:=by rw[<-Array.length_toList,p2.length_eq,Array.length_toList]
  have b2:e2.size<scanBound:=z2 ▸ hb
  refine wpAny_bind (hg _ _ _ ?_)
  refine wpAny_bind (wpAny_storeSet_of g1 rfl ?_ (fits_of_scanBound b2))
  obtain⟨_,S2⟩:=VZ (P:=P) (w:=w) g1 hex rfl (hel.perm p2) ((p2.map _).trans hp) b2 f2 L2
  exact wpAny_pure (h _ (sb1.trans (Heap.SameBut.update ..)) S2)
 ·exact wpAny_pure (h _ sb1 S1)
theorem V1{ms:List Int}{k:Int}(h:k∈ms):step_dedup ms k=ms:=by
 unfold step_dedup
 have e:(ms.any λx=>x == k)=true:=List.any_eq_true.mpr ⟨k,h,beq_self_eq_true k⟩
 rw[if_pos e]
theorem V2{ms:List Int}{k:Int}(h:¬ k∈ms):step_dedup ms k=ms++[k]:=by
 unfold step_dedup
 rw[if_neg λz=> ?_]
 obtain⟨x,hx,q⟩:=List.any_eq_true.mp z
 rw[beq_iff_eq]at q
 exact h (q ▸ hx)
theorem nR{a:Addr}{ms:List Int}{k:Int}{tk:Tok}{Q:Bool->Shared->Prop}(hS:IntSet P w s.heap a ms)(hr:ms.length+1<scanBound)
    (h:∀ (b:Bool) h',Heap.SameBut a s.heap h'->IntSet P w h' a (step_dedup ms k)->Q b { s with heap:=h' }):wpAny (model P w) A (setAddHashed a (.int k tk) ((intKind P w).hash k)) Q E s:=by
  have hk:(intKind P w).is k (.int k tk)=true:=intKind_is ..
  have hsc:(Value.int k tk).scannable=true:=rfl
  generalize Value.int k tk=x at hk hsc
  obtain⟨o,es,ep,t,ho,hex,hd,hel,hp,hb,hf,L⟩:=hS
  have hlen:es.size=ms.length:=by rw[<-hp.length_eq,List.length_map,Array.length_toList]
  have hivx:iv x=k:=by obtain⟨_,z⟩:=Value.isInt_shape hk;rw[z];rfl
  unfold setAddHashed setAddHashedIn
  refine wpAny_holding (wpAny_bind (wpAny_setState_of ho hd hf ?_))
  dsimp only
  rw[byScan_of hsc hb hel,if_pos rfl]
  unfold setAddByScan
  refine wpAny_bind (wpAny_bind (wpAny_rule (wpAny_bind (wpAny_setScan_of hk ho hd hf hel ?_))))
  cases hx:es.toList.findIdx? (λe=>(intKind P w).is k e.2)with
  | some j =>
    dsimp only
    obtain⟨hj,pj,_⟩:=List.findIdx?_eq_some_iff_getElem.mp hx
    have hm:k∈ms:=(VY hel hp k).mpr ⟨_,List.getElem_mem hj,pj⟩
    refine wpAny_pure (wpAny_pure ?_)
    have:=h false s.heap (Heap.SameBut.refl a s.heap) ⟨o,es,ep,t,ho,hex,hd,hel,by rw[V1 hm];exact hp,hb,hf,L⟩
    exact this
  | none =>
    dsimp only
    have hm:¬ k∈ms:=λz=>by
      obtain⟨e,he,q⟩:=(VY hel hp k).mp z
      have:=List.findIdx?_eq_none_iff.mp hx e he
      rw[q]at this;cases this
    have p1:=layNew_perm t es ((intKind P w).hash k) x
    have f1:=layNew_fits t es ((intKind P w).hash k) x
    have L1:=L.layNew es ((intKind P w).hash k) x
    revert p1 f1 L1
    generalize layNew t es ((intKind P w).hash k) x=r
    obtain⟨e1,t1,wd,gv⟩:=r
    intro p1 f1 L1
    dsimp only at p1 f1 L1 ⊢
    rw[Array.toList_push]at p1
    have hel1:ElemsOf (intKind P w) e1.toList:=(hel.push hk hsc).perm p1
    have hp1:List.Perm (e1.toList.map λe=>iv e.2) (step_dedup ms k):=by
      rw[V2 hm]
      refine(p1.map _).trans ?_
      rw[List.map_append,List.map_cons,List.map_nil,hivx]
      exact List.Perm.append_right _ hp
    have hb1:e1.size<scanBound:=by
      rw[<-Array.length_toList,p1.length_eq,List.length_append,Array.length_toList,hlen]
      exact hr
    have gw:∀ (b:Bool) (s1:Shared) (R:Unit->Shared->Prop),R () s1 →
        wpAny (model P w) A (match b with
          | true=>rule "set.scan.the-table-gave-way"
          | false=>pure ()) R E s1:=λb s1 R q=>by
      cases b
      ·exact wpAny_pure q
      ·exact wpAny_rule q
    refine wpAny_bind (gw _ _ _ ?_)
    split
    · refine wpAny_bind ?_
      rw[hashByValue_scannable 8 hsc]
      refine wpAny_pure (V0 ?_ ho hex hd hel1 hp1 hb1 ?_ ?_ λh' sb S'=> ?_)
      · intro b s1 R q
        cases b
        ·exact wpAny_pure q
        ·exact wpAny_rule q
      · split
        ·exact f1
        ·exact SetTable.fits_plain_off f1
      · split
        ·exact L1
        ·exact L1.plainOff
      ·dsimp only;exact wpAny_pure (h _ h' sb S')
    · refine wpAny_bind (wpAny_pure ?_)
      rw[if_pos rfl]
      refine V0 ?_ ho hex hd hel1 hp1 hb1 f1 L1 λh' sb S'=> ?_
      · intro b s1 R q
        cases b
        ·exact wpAny_pure q
        ·exact wpAny_rule q
      ·dsimp only;exact wpAny_pure (h _ h' sb S')
theorem IntSet.at{h h':Heap}{a:Addr}{ms:List Int}(x:IntSet P w h a ms)(k:∀ o,h.get? a=some o->h'.get? a=some o):IntSet P w h' a ms:=by
 obtain⟨o,es,ep,t,ho,r⟩:=x
 exact⟨o,es,ep,t,k _ ho,r⟩
end
section
variable{P:Program}{w:World}{A:Around}{R:Result->Shared->Prop}{I:Addr}{fp wr:List Addr}{G:Array GenState->Array GenState->Prop}{n:Nat}{T:Nat->Value->Prop}{St:Nat->Shared->Prop}
theorem nS(W:WalksS P w A.in1 I fp wr G n T St)(a:Addr)(ha:a∉fp)(val:Nat->Int)(hv:∀ i v,T i v->∃ t,v=.int (val i) t)(hb:n+1<scanBound):∀ (k i:Nat) (s:Shared),n - i=k->i<=n->St i s →
  IntSet P w s.heap a (firstMet val i)->(∀ s',Moved (a::wr) G s s'->IntSet P w s'.heap a (firstMet val n)->R (.ok (.ret .none)) s') →
  codeAny (model P w) A (.builtin "set.update.loop" ⟨[.ref a,.ref I],[]⟩) R s:=by
 have haw:a∉wr:=λz=>ha (W.sub _ z)
 have up:∀ b∈wr,b∈a::wr:=λb q=>List.mem_cons_of_mem _ q
 intro k
 induction k with
 | zero =>
  intro i s e1 e2 st S q
  obtain rfl:i=n:=by omega
  refine codeAny_builtin PyProof.Rows.F.entry_set_update_loop ?_
  rw[Around.under_plainId PyProof.Rows.F.plain_set_update_loop _]
  show wpAny _ A.in1 (pyNext (.ref I) >>= _) _ _ s
  refine wpAny_bind (W.done s _ _ st λs' m=> ?_)
  show wpAny _ A.in1 (ret Value.none) _ _ s'
  exact wpAny_pure (q s' (m.mono up) (S.at λo e=>m.heap a o haw e))
 | succ k ih =>
  intro i s e1 e2 st S q
  have hi:i<n:=by omega
  refine codeAny_builtin PyProof.Rows.F.entry_set_update_loop ?_
  rw[Around.under_plainId PyProof.Rows.F.plain_set_update_loop _]
  show wpAny _ A.in1 (pyNext (.ref I) >>= _) _ _ s
  refine wpAny_bind (W.item i s _ _ hi st λv s1 tv st1 m=> ?_)
  obtain⟨t,rfl⟩:=hv i v tv
  have S1:=S.at λo e=>m.heap a o haw e
  show wpAny _ A.in1 (holding [Value.int (val i) t] (setAdd a (.int (val i) t)) >>= _) _ _ s1
  refine wpAny_bind (wpAny_holding ?_)
  unfold setAdd
  refine wpAny_holding (wpAny_bind ((intKind P w).pyHash (k:=val i) (intKind_is ..) ?_))
  refine nR (s:={ s1 with toks:=s1.toks+1 }) S1 (by have:=firstMet_length_le val i;omega) λb h' sb S2=> ?_
  rw[<-firstMet_succ]at S2
  refine wpAny_pure ⟨plainId_quiet PyProof.Rows.F.plain_set_update_loop _,ih (i+1) _ (by omega) hi (W.frame _ s1 _ _ st1 (Nat.le_succ _) λb hb o e=> ?_) S2 λs2 m2 S3=> ?_⟩
  ·rw[sb.2 b λz:b=a=>ha (z ▸ hb)];exact e
  ·refine q s2 (Moved.trans W.gtrans ((m.mono up).then_heap (Nat.le_succ _) λb o hb e=> ?_) m2) S3
   rw[sb.2 b λz:b=a=>hb (z ▸ List.mem_cons_self)];exact e
end
section
variable{P:Program}{w:World}{A:Around}{E:Value->Shared->Prop}{s:Shared}
theorem nU{x:Value}{Q:Value->Shared->Prop}(h:Q (.ref s.heap.objs.size) { s with heap:=s.heap.push { cls:=.type "set",dict:=none,data:=.set #[] 0 (.fresh 0 0 (G4 w)) } }) :
  codeAny (model P w) A (.call (.builtin "set.__new__") ⟨[.type "set",x],[]⟩) (wants Q E) s:=by
 refine codeAny_of_tree ?_
 show wpAny _ A.in1 (checkBuiltinCall "set.__new__" ⟨[.type "set",x],[]⟩ >>= λ_=>again (.builtin "set.__new__" ⟨[.type "set",x],[]⟩)) _ _ s
 refine wpAny_bind (wpAny_of_eq (PySem.F.newCall_set_1 x) (wpAny_pure ⟨plainId_quiet PySem.F.plain_set_new _,codeAny_builtin PySem.F.entry_set_new ?_⟩))
 rw[Around.under_plainId PySem.F.plain_set_new _]
 unfold Builtin.«set.__new__» Builtin.Frozenset.newClass
 have e:=sub_set_self
 obtain⟨hp,g,d,tk,os⟩:=s
 dsimp only
 wp_walk
 refine wpAny_askSetting (wpAny_pure ?_)
 dsimp only
 simp only[newObj]
 exact wpAny_bind (wpAny_alloc (wpAny_pure (wpAny_pure h)))
end
end L2
namespace L2
open PySem PyProof.Rows
abbrev ET(f:Value)(i:Nat)(a:Addr)(n ep:Nat):Obj:={ cls:=.type "set_iterator",dict:=none,data:=.fields #[f,rawInt i,.ref a,rawInt n,rawInt ep],slots:= #[] }
theorem EU:Slot "set_iterator" "__next__" "set_iterator.__next__" :=
 .of (owner:="set_iterator") (n:="__next__") (by rw[typeLookup_type,builtinLookup_eq_fast];kernel_rfl) (by decide +kernel) (by decide +kernel) (by decide +kernel)
  (by first | exact .inl (by decide +kernel) | exact .inr (by decide +kernel))
  (by rw[isSubtype_type];kernel_rfl)
theorem MU:entryFor table "set_iterator.__next__"=some Builtin.«set_iterator.__next__» :=entryFor_of_fast (by kernel_rfl)
theorem MV(a:Value):argsOk "set_iterator.__next__" ⟨[a],[]⟩:=by
 unfold argsOk
 kernel_rfl
theorem V3:Slot "set_iterator" "__iter__" "set_iterator.__iter__" :=
 .of (owner:="set_iterator") (n:="__iter__") (by rw[typeLookup_type,builtinLookup_eq_fast];kernel_rfl) (by decide +kernel) (by decide +kernel) (by decide +kernel)
  (by first | exact .inl (by decide +kernel) | exact .inr (by decide +kernel))
  (by rw[isSubtype_type];kernel_rfl)
section
variable{P:Program}{w:World}{A:Around}{E:Value->Shared->Prop}{s:Shared}
theorem nX{it a:Addr}{sl i n ep nx:Nat}{x:Value}{o:Obj}{es:Array (Int × Value)}{ep':Nat}{t:SetTable}{Q:Option Value->Shared->Prop}(hit:s.heap.get? it=some (ET (rawInt sl) i a n ep))
  (ho:s.heap.get? a=some o) (hd:o.data=.set es ep' t) (hf:t.fits es.size=true) (hn:es.size=n)
  (hs:∀ (A':Around) (E':Value->Shared->Prop) (Q':Option (Value × Nat)->Shared->Prop),Q' (some (x,nx)) s->wpAny (model P w) A' (setNext a sl i ep) Q' E' s)
  (q:∀ h',h'.get? it=some (ET (rawInt nx) (i+1) a n ep)->Heap.SameBut it s.heap h'->Q (some x) { s with heap:=h' }):wpAny (model P w) A (pyNext (.ref it)) Q E s:=by
 have T:s.TypeIs (.ref it) "set_iterator":=⟨_,hit,rfl⟩
 unfold pyNext
 refine wpAny_bind (wpAny_attempt (wpAny_callSpecial?_slot (name:=Str.ofString "__next__") T EU (wpAny_call_entry EU T MU ?_ (MV _))))
 unfold Builtin.«set_iterator.__next__»
 refine wpAny_bind (wpAny_pure ?_)
 refine wpAny_bind (wpAny_fieldsOf hit rfl ?_)
 show wpAny _ _ (setEntries a >>= _) _ _ s
 refine wpAny_bind (wpAny_setEntries_of ho hd hf ?_)
 rw[if_neg (by rw[hn];simp)]
 show wpAny _ _ (setNext a (sl:Int).toNat (i:Int).toNat (ep:Int).toNat >>= _) _ _ s
 rw[Int.toNat_natCast,Int.toNat_natCast,Int.toNat_natCast]
 refine wpAny_bind (hs _ _ _ ?_)
 dsimp only
 refine wpAny_bind (wpAny_setField_rec hit (by simp) λh1 g1 b1=> ?_)
 refine wpAny_bind (wpAny_setField_rec g1 (by simp) λh2 g2 b2=> ?_)
 exact wpAny_pure ⟨_,rfl,wpAny_pure (q h2 g2 (b1.trans b2))⟩
theorem V4{it:Addr}{h1:Heap}{Q:Except Value (Option Value)->Shared->Prop}(hh:A.handled=none)(hx:Heap.ExtBut it s.heap h1)
  (q:∀ h' e,Heap.ExtBut it s.heap h'->({ s with heap:=h' }:Shared).TypeIs e "StopIteration"->Q (.error e) { s with heap:=h' }) :
  wpAny (model P w) A (newExc (.type "StopIteration") [] >>= raiseNew (α :=Fin)) (λ_ _=>False) (λe=>Q (.error e)) { s with heap:=h1 }:=by
 refine wpAny_bind ?_
 simp only[newExc,newTuple]
 refine wpAny_bind (wpAny_newObj_type ?_ (by size_fits))
 refine wpAny_bind (m:=firstArgMember _ _) (wpAny_of_eq (a:=Value.none) (by first | rfl | (simp only[firstArgMember];rfl)) ?_)
 refine wpAny_newObj_type ?_ (by size_fits)
 simp only[raiseNew]
 refine wpAny_bind (wpAny_handled ?_)
 rw[hh]
 refine wpAny_bind (wpAny_pure (wpAny_throw ?_))
 exact q _ _ ((hx.push _).push _) ⟨_,Heap.get?_push_size _ rfl,rfl⟩
theorem nY{it a:Addr}{sl i n ep:Nat}{o:Obj}{es:Array (Int × Value)}{ep':Nat}{t:SetTable}{Q:Option Value->Shared->Prop}(hh:A.handled=none)(hit:s.heap.get? it=some (ET (rawInt sl) i a n ep))
  (ho:s.heap.get? a=some o) (hd:o.data=.set es ep' t) (hf:t.fits es.size=true) (hn:es.size=n)
  (hs:∀ (A':Around) (E':Value->Shared->Prop) (Q':Option (Value × Nat)->Shared->Prop),Q' none s->wpAny (model P w) A' (setNext a sl i ep) Q' E' s)
  (q:∀ h',Heap.ExtBut it s.heap h'->Q none { s with heap:=h' }):wpAny (model P w) A (pyNext (.ref it)) Q E s:=by
 have T:s.TypeIs (.ref it) "set_iterator":=⟨_,hit,rfl⟩
 unfold pyNext
 refine wpAny_bind (wpAny_attempt (wpAny_callSpecial?_slot (name:=Str.ofString "__next__") T EU (wpAny_call_entry EU T MU ?_ (MV _))))
 unfold Builtin.«set_iterator.__next__»
 refine wpAny_bind (wpAny_pure ?_)
 refine wpAny_bind (wpAny_fieldsOf hit rfl ?_)
 show wpAny _ _ (setEntries a >>= _) _ _ s
 refine wpAny_bind (wpAny_setEntries_of ho hd hf ?_)
 rw[if_neg (by rw[hn];simp)]
 show wpAny _ _ (setNext a (sl:Int).toNat (i:Int).toNat (ep:Int).toNat >>= _) _ _ s
 rw[Int.toNat_natCast,Int.toNat_natCast,Int.toNat_natCast]
 refine wpAny_bind (hs _ _ _ ?_)
 dsimp only
 refine wpAny_bind (wpAny_setField_rec hit (by simp) λh1 g1 b1=> ?_)
 refine wpAny_mono (V4 (s:=s) (it:=it) (A:=A.in1) (Q:=λr s'=>match r with
  | .error e=>wpAny (model P w) A (isInstance e (.type "StopIteration") >>= λb=>if b=true then pure none else throw e) Q E s'
  | _=>False) (by simpa using hh) b1.extBut λh' e hx te=> ?_) (λ_ _ z=>z.elim) (λe s' z=>z)
 refine wpAny_bind (wpAny_isInstance (T:="StopIteration") (b:=true) te isSubtype_stop ?_)
 exact wpAny_pure (q _ hx)
theorem nZ{it a tp:Addr}{i n ep pl:Nat}{ot:Obj}{ps:Array Value}{k:Nat}{x:Int × Value}{o:Obj}{es:Array (Int × Value)}{t:SetTable}{Q:Option Value->Shared->Prop}(hit:s.heap.get? it=some (ET (.ref tp) i a n ep))
  (ho:s.heap.get? a=some o) (hd:o.data=.set es ep t) (hf:t.fits es.size=true) (hn:es.size=n) (ht:s.heap.get? tp=some ot) (hdt:ot.data=.seq ps k) (hp:ps[i]? =some (rawInt pl)) (hx:es[pl]? =some x)
  (q:∀ h',h'.get? it=some (ET (.ref tp) (i+1) a n ep)->Heap.SameBut it s.heap h'->Q (some x.2) { s with heap:=h' }):wpAny (model P w) A (pyNext (.ref it)) Q E s:=by
 have T:s.TypeIs (.ref it) "set_iterator":=⟨_,hit,rfl⟩
 unfold pyNext
 refine wpAny_bind (wpAny_attempt (wpAny_callSpecial?_slot (name:=Str.ofString "__next__") T EU (wpAny_call_entry EU T MU ?_ (MV _))))
 unfold Builtin.«set_iterator.__next__»
 refine wpAny_bind (wpAny_pure ?_)
 refine wpAny_bind (wpAny_fieldsOf hit rfl ?_)
 show wpAny _ _ (setEntries a >>= _) _ _ s
 refine wpAny_bind (wpAny_setEntries_of ho hd hf ?_)
 rw[if_neg (by rw[hn];simp)]
 show wpAny _ _ (seqItems? (.ref tp) >>= _) _ _ s
 refine wpAny_bind (wpAny_seqItems ht hdt ?_)
 dsimp only
 rw[Int.toNat_natCast,hp]
 show wpAny _ _ (setNextDrawn a (pl:Int).toNat (ep:Int).toNat >>= _) _ _ s
 rw[Int.toNat_natCast,Int.toNat_natCast]
 unfold setNextDrawn
 refine wpAny_bind (wpAny_bind (wpAny_setState_of ho hd hf ?_))
 dsimp only
 rw[if_neg (by simp)]
 obtain⟨x1,x2⟩:=x
 rw[hx]
 refine wpAny_pure ?_
 refine wpAny_bind (wpAny_setField_rec hit (by simp) λh2 g2 b2=> ?_)
 exact wpAny_pure ⟨_,rfl,wpAny_pure (q h2 g2 b2)⟩
theorem n8{it a tp:Addr}{i n ep:Nat}{ot:Obj}{ps:Array Value}{k:Nat}{o:Obj}{es:Array (Int × Value)}{t:SetTable}{Q:Option Value->Shared->Prop}(hh:A.handled=none)(hit:s.heap.get? it=some (ET (.ref tp) i a n ep))
  (ho:s.heap.get? a=some o) (hd:o.data=.set es ep t) (hf:t.fits es.size=true) (hn:es.size=n) (ht:s.heap.get? tp=some ot) (hdt:ot.data=.seq ps k) (hp:ps[i]? =none)
  (q:∀ h',Heap.ExtBut it s.heap h'->Q none { s with heap:=h' }):wpAny (model P w) A (pyNext (.ref it)) Q E s:=by
 have T:s.TypeIs (.ref it) "set_iterator":=⟨_,hit,rfl⟩
 unfold pyNext
 refine wpAny_bind (wpAny_attempt (wpAny_callSpecial?_slot (name:=Str.ofString "__next__") T EU (wpAny_call_entry EU T MU ?_ (MV _))))
 unfold Builtin.«set_iterator.__next__»
 refine wpAny_bind (wpAny_pure ?_)
 refine wpAny_bind (wpAny_fieldsOf hit rfl ?_)
 show wpAny _ _ (setEntries a >>= _) _ _ s
 refine wpAny_bind (wpAny_setEntries_of ho hd hf ?_)
 rw[if_neg (by rw[hn];simp)]
 show wpAny _ _ (seqItems? (.ref tp) >>= _) _ _ s
 refine wpAny_bind (wpAny_seqItems ht hdt ?_)
 dsimp only
 rw[Int.toNat_natCast,hp]
 dsimp only
 refine wpAny_bind (wpAny_setField_rec hit (by simp) λh1 g1 b1=> ?_)
 refine wpAny_bind (wpAny_setField_rec g1 (by simp) λh2 g2 b2=> ?_)
 refine wpAny_mono (V4 (s:=s) (it:=it) (A:=A.in1) (Q:=λr s'=>match r with
  | .error e=>wpAny (model P w) A (isInstance e (.type "StopIteration") >>= λb=>if b=true then pure none else throw e) Q E s'
  | _=>False) (by simpa using hh) (b1.trans b2).extBut λh' e hx te=> ?_) (λ_ _ z=>z.elim) (λe s' z=>z)
 refine wpAny_bind (wpAny_isInstance (T:="StopIteration") (b:=true) te isSubtype_stop ?_)
 exact wpAny_pure (q _ hx)
theorem oC{a:Addr}{o:Obj}{es:Array (Int × Value)}{ep:Nat}{t:SetTable}{i:Nat}{Q:Option (Value × Nat)->Shared->Prop}(ft:w.params.followText "set-order"=true)(ho:s.heap.get? a=some o)(hd:o.data=.set es ep t)(hf:t.fits es.size=true)
  (q:Q (((pickOrder (w.params.setOrder a ep) es)[i]?).map λe=>(e.2,0)) s):wpAny (model P w) A (setNext a 0 i ep) Q E s:=by
 unfold setNext
 refine wpAny_bind (wpAny_setState_of ho hd hf ?_)
 dsimp only
 refine wpAny_bind ?_
 unfold setsByText
 refine wpAny_bind (wpAny_askSetting (wpAny_pure ?_))
 show wpAny _ _ (if w.params.followText "set-order"=true then _ else _) _ _ s
 rw[if_pos ft,if_neg (by simp)]
 refine wpAny_bind ?_
 unfold setWalk
 refine wpAny_bind (wpAny_setState_of ho hd hf ?_)
 dsimp only
 refine wpAny_bind ?_
 unfold setsByText
 refine wpAny_bind (wpAny_askSetting (wpAny_pure ?_))
 show wpAny _ _ (if w.params.followText "set-order"=true then _ else _) _ _ s
 rw[if_pos ft]
 refine wpAny_bind (wpAny_askSetting (wpAny_pure ?_))
 exact wpAny_pure q
theorem oE{a:Addr}{o:Obj}{es:Array (Int × Value)}{ep:Nat}{t:SetTable}{i:Nat}{Q:Option (Value × Nat)->Shared->Prop}(ft:w.params.followText "set-order"=false)(ho:s.heap.get? a=some o)(hd:o.data=.set es ep t)(hf:t.fits es.size=true)
  (L:Led (G4 w) t) (pl:(!t.plain && decide (es.size > 1))=false) (hi:i<=es.size) (q:Q ((es[i]?).map λe=>(e.2,IK t.place (i+1))) s):wpAny (model P w) A (setNext a (IK t.place i) i ep) Q E s:=by
 have hz:t.place.size=es.size:=by
  unfold SetTable.fits at hf
  simp only[Bool.and_eq_true,beq_iff_eq]at hf
  exact hf.1
 unfold setNext
 refine wpAny_bind (wpAny_setState_of ho hd hf ?_)
 dsimp only
 refine wpAny_bind ?_
 unfold setsByText
 refine wpAny_bind (wpAny_askSetting (wpAny_pure ?_))
 show wpAny _ _ (if w.params.followText "set-order"=true then _ else _) _ _ s
 rw[if_neg (show ¬ w.params.followText "set-order"=true by rw[ft];exact Bool.false_ne_true)]
 have ld:t.led=true:=by rw[L.led];unfold G4;rw[ft];rfl
 show wpAny _ _ (if(!t.plain && decide (es.size > 1))=true then _ else _) _ _ s
 rw[if_neg (by rw[pl];exact Bool.false_ne_true)]
 refine wpAny_bind (m:=if(!t.led && !es.isEmpty)=true then _ else _) ?_
 rw[if_neg (by rw[ld];simp)]
 refine wpAny_pure (wpAny_pure ?_)
 rw[nK L.rise (by omega)]
 by_cases hlt:i<es.size
 ·have h2:i<t.place.size:=by omega
  rw[Array.getElem?_eq_getElem hlt,Array.getElem?_eq_getElem h2]
  rw[Array.getElem?_eq_getElem hlt]at q
  have:IK t.place (i+1)=t.place[i]+1:=by simp[IK,h2]
  rw[Option.map_some,this]at q
  exact q
 ·rw[Array.getElem?_eq_none (by omega)]
  rw[Array.getElem?_eq_none (by omega),Option.map_none]at q
  exact q
end
end L2
namespace L2
open PySem PyProof.Rows
theorem oF:entryFor table "set.__iter__"=some Builtin.«frozenset.__iter__» :=entryFor_alias (id':="frozenset.__iter__") (by kernel_rfl) rfl (by decide +kernel) (by kernel_rfl)
theorem oG:entryFor table "set_iterator.__iter__"=some Builtin.«dict_keyiterator.__iter__» :=entryFor_alias (id':="dict_keyiterator.__iter__") (by kernel_rfl) rfl (by decide +kernel) (by kernel_rfl)
theorem oH(a:Value):argsOk "set_iterator.__iter__" ⟨[a],[]⟩:=by
 unfold argsOk
 kernel_rfl
structure OZ(P:Program)(w:World)(A:Around)(h h1:Heap)(a I:Addr)(ms:List Int):Prop where
 ex:∃ (fp:List Addr) (ord:List Value) (ks:List Int) (St:Nat->Heap->Prop),(∀ b∈fp,b=a\/h.objs.size<=b)/\Walks P w A I fp [I] ord.length (λi v=>ord[i]? =some v) St/\St 0 h1/\IntsAre ord ks/\ks.Perm ms
 new:h.objs.size<=I
section
variable{P:Program}{w:World}{A:Around}{E:Value->Shared->Prop}{s:Shared}
theorem O0:∀ {es:List (Int × Value)},ElemsOf (intKind P w) es->IntsAre (es.map (·.2)) (es.map λe=>iv e.2)
 | [],_=>.nil
 | e::r,h=>by
  obtain⟨t,z⟩:=OY h (List.mem_cons_self ..)
  have:=O0 h.tail
  rw[List.map_cons,List.map_cons,z]
  exact .cons _ _ this
theorem V5{it:Addr}{f:Value}{i:Nat}{a:Addr}{n ep:Nat}{Q:Value->Shared->Prop}(hit:s.heap.get? it=some (ET f i a n ep))(q:Q (.ref it) s):wpAny (model P w) A (pyIter (.ref it)) Q E s:=by
 have T:s.TypeIs (.ref it) "set_iterator":=⟨_,hit,rfl⟩
 refine wpAny_pyIter_slot T V3 (wpAny_call_entry V3 T oG ?_ (oH _))
 show wpAny _ _ (ret (.ref it)) _ _ s
 exact wpAny_pure ⟨_,rfl,"set_iterator",_,T,EU.lookup,q⟩
theorem oI{a I:Addr}{es:Array (Int × Value)}{ep:Nat}{t:SetTable}{o:Obj}{f:Nat->Nat}{ord:List Value}(hh:A.handled=none)(hne:a≠I)(hd:o.data=.set es ep t)(hf:t.fits es.size=true)(hl:ord.length=es.size)
  (nx:∀ (s:Shared),s.heap.get? a=some o->∀ (i:Nat),i<=es.size->∀ (A':Around) (E':Value->Shared->Prop) (Q':Option (Value × Nat)->Shared->Prop),Q' ((ord[i]?).map λv=>(v,f (i+1))) s->wpAny (model P w) A' (setNext a (f i) i ep) Q' E' s) :
  Walks P w A I [I,a] [I] ord.length (λi v=>ord[i]? =some v) (λi h=>h.get? I=some (ET (rawInt (f i)) i a es.size ep)/\h.get? a=some o) where
 sub:=λb hb=>by simp at hb;simp[hb]
 frame:=λ_ _ _ st k=>⟨k I (by simp) _ st.1,k a (by simp) _ st.2⟩
 item:=λi s Q E hi st q=>by
  have e:ord[i]? =some ord[i]:=List.getElem?_eq_getElem hi
  refine nX st.1 st.2 hd hf rfl (λA' E' Q' q'=>nx s st.2 i (by omega) A' E' Q' (by rw[e];exact q')) λh' g b=> ?_
  exact q _ h' s.toks e ⟨g,b.extBut a _ hne st.2⟩ λc u hc z=>b.extBut c u (λy=>hc (by simp[y])) z
 done:=λs Q E st q=>by
  refine nY hh st.1 st.2 hd hf rfl (λA' E' Q' q'=>nx s st.2 ord.length (by omega) A' E' Q' (by rw[List.getElem?_eq_none (Nat.le_refl _)];exact q')) λh' x=> ?_
  exact q h' s.toks λc u hc z=>x c u (λy=>hc (by simp[y])) z
 self:=λ_ _ _ _ st q=>V5 st.1 q
theorem oJ{a I tp:Addr}{es:Array (Int × Value)}{ep k:Nat}{t:SetTable}{o ot:Obj}{pl:List Nat}{ord:List Value}(hh:A.handled=none)(hne:a≠I)(hnt:tp≠I)(hd:o.data=.set es ep t)(hf:t.fits es.size=true)
  (hdt:ot.data=.seq (pl.map λ(i:Nat)=>rawInt i).toArray k) (hl:ord.length=pl.length) (hx:∀ (i p:Nat),pl[i]? =some p->∃ e:Int × Value,es[p]? =some e/\ord[i]? =some e.2) :
  Walks P w A I [I,a,tp] [I] ord.length (λi v=>ord[i]? =some v) (λi h=>h.get? I=some (ET (.ref tp) i a es.size ep)/\h.get? a=some o/\h.get? tp=some ot) where
 sub:=λb hb=>by simp at hb;simp[hb]
 frame:=λ_ _ _ st k=>⟨k I (by simp) _ st.1,k a (by simp) _ st.2.1,k tp (by simp) _ st.2.2⟩
 item:=λi s Q E hi st q=>by
  have hi':i<pl.length:=by omega
  have e:=List.getElem?_eq_getElem hi'
  obtain⟨x,e1,e2⟩:=hx i _ e
  refine nZ st.1 st.2.1 hd hf rfl st.2.2 hdt (by rw[List.getElem?_toArray,List.getElem?_map,e];rfl) e1 λh' g b=> ?_
  exact q _ h' s.toks e2 ⟨g,b.extBut a _ hne st.2.1,b.extBut tp _ hnt st.2.2⟩ λc u hc z=>b.extBut c u (λy=>hc (by simp[y])) z
 done:=λs Q E st q=>by
  refine n8 hh st.1 st.2.1 hd hf rfl st.2.2 hdt (by rw[List.getElem?_toArray,List.getElem?_map,List.getElem?_eq_none (by omega)];rfl) λh' x=> ?_
  exact q h' s.toks λc u hc z=>x c u (λy=>hc (by simp[y])) z
 self:=λ_ _ _ _ st q=>V5 st.1 q
theorem oK{n:Nat}{Q:Nat->Shared->Prop}(hn:n≠0)(q:∀ i d,i<n->Q i { s with drawn:=d }):wpAny (model P w) A (choose .order n) Q E s:=fun Γ p hΓ =>by
 show Sem.wp _ _ (.choose .order n .pure) _ _ _ _
 rw[Sem.wp_choose]
 refine⟨hn,?_⟩
 show Sem.wp _ _ (.pure _) _ _ _ _
 rw[Sem.wp]
 exact q _ _ (Nat.mod_lt _ (Nat.pos_of_ne_zero hn))
theorem V6{α :Type}:∀ (n:Nat) (xs:List α) (s:Shared) (Q:List α ->Shared->Prop),xs.length=n->(∀ ys d,List.Perm ys xs->Q ys { s with drawn:=d })->wpAny (model P w) A (drawOrder n xs) Q E s
 | 0,xs,s,Q,hn,q=>by
  have:xs=[]:=List.length_eq_zero_iff.mp hn
  subst this
  unfold drawOrder
  exact wpAny_pure (q [] s.drawn .nil)
 | n+1,[],s,Q,hn,q=>by cases hn
 | n+1,x::r,s,Q,hn,q=>by
  unfold drawOrder
  refine wpAny_bind (oK (by simp) λi d hi=> ?_)
  rw[List.getElem?_eq_getElem hi]
  dsimp only
  refine wpAny_bind (V6 n _ _ _ (by rw[List.length_eraseIdx_of_lt hi,hn];rfl) λys d' p=> ?_)
  refine wpAny_pure (q _ d' ?_)
  refine(List.Perm.cons _ p).trans ?_
  rw[List.eraseIdx_eq_take_drop_succ]
  refine List.perm_middle.symm.trans ?_
  rw[<-List.drop_eq_getElem_cons hi,List.take_append_drop]
theorem oM {a:Addr} {ms:List Int} {Q:Value->Shared->Prop} (hh:A.handled=none) (S:IntSet P w s.heap a ms)
    (q:∀ I h1 d1,(∀ b o,s.heap.get? b=some o->h1.get? b=some o)->OZ P w A s.heap h1 a I ms->Q (.ref I) { s with heap:=h1,drawn:=d1 }):wpAny (model P w) A (pyIter (.ref a)) Q E s:=by
  obtain⟨o,es,ep,t,ho,hex,hd,hel,hp,hb,hf,L⟩:=S
  have T:s.TypeIs (.ref a) "set":=⟨o,ho,hex.1⟩
  have hlt:a<s.heap.objs.size:=Heap.lt_size ho
  refine wpAny_pyIter_slot T PySem.F.slot_set_iter (wpAny_call_entry PySem.F.slot_set_iter T oF ?_ (PySem.F.args_set_iter_1 _))
  unfold Builtin.«frozenset.__iter__»
  show wpAny _ _ ((pure a:Sem Addr) >>= _) _ _ s
  refine wpAny_bind (wpAny_pure ?_)
  refine wpAny_bind ?_
  unfold Builtin.Frozenset.sizeOf
  refine wpAny_bind (wpAny_setEntries_of ho hd hf (wpAny_pure ?_))
  refine wpAny_bind ?_
  unfold setDrawn
  refine wpAny_bind (wpAny_setState_of ho hd hf ?_)
  dsimp only
  refine wpAny_bind ?_
  unfold setsByText
  refine wpAny_bind (wpAny_askSetting (wpAny_pure (wpAny_pure ?_)))
  show wpAny _ _ (if(!w.params.followText "set-order" && (!t.plain && decide (es.size > 1)))=true then _ else _) _ _ s
  have plain:∀ (f:Nat->Nat) (ord:List Value),f 0=0->ord.length=es.size->(∃ ks,IntsAre ord ks/\ks.Perm ms) →
      (∀ (s:Shared),s.heap.get? a=some o->∀ (i:Nat),i<=es.size->∀ (A':Around) (E':Value->Shared->Prop) (Q':Option (Value × Nat)->Shared->Prop),Q' ((ord[i]?).map λv=>(v,f (i+1))) s->wpAny (model P w) A' (setNext a (f i) i ep) Q' E' s) →
      OZ P w A s.heap (s.heap.push (ET (rawInt 0) 0 a es.size ep)) a s.heap.objs.size ms:=λf ord f0 hl ⟨ks,hi,pk⟩ nx =>
    ⟨⟨_,ord,ks,_,λb hb=>by
        simp only[List.mem_cons,List.not_mem_nil,or_false]at hb
        rcases hb with rfl | rfl
        ·exact .inr (Nat.le_refl _)
        ·exact .inl rfl,oI hh (Nat.ne_of_lt hlt) hd hf hl nx,⟨by rw[f0];exact Heap.get?_push_size _ rfl,Heap.get?_push_of_some _ ho⟩,hi,pk⟩,Nat.le_refl _⟩
  have fin:∀ (W:OZ P w A s.heap (s.heap.push (ET (rawInt 0) 0 a es.size ep)) a s.heap.objs.size ms),
      wpAny (model P w) A.in1 (do
        let first ← (pure (rawInt 0):Sem Value)
        ret (← newFields "set_iterator" [first,rawInt 0,.ref a,rawInt es.size,rawInt (← setEpoch a)])) (λfin s'=>∃ v,fin=.done (.ret v)/\∃ T' r,s'.TypeIs v T'/\typeLookup (.type T') "__next__"=pure (some r)/\Q v s') E s:=λW=>by
    refine wpAny_bind (wpAny_pure ?_)
    refine wpAny_bind (wpAny_setEpoch_of ho hd hf ?_)
    refine wpAny_bind (wpAny_newObj_type (wpAny_pure ⟨_,rfl,"set_iterator",_,⟨_,Heap.get?_push_size _ rfl,rfl⟩,EU.lookup,?_⟩))
    exact q _ _ s.drawn (λb u e=>Heap.get?_push_of_some _ e) W
  cases ft:w.params.followText "set-order" with
  | true =>
    rw[if_neg (by simp)]
    have pk:=nQ (w.params.setOrder a ep) es
    have hl:(pickOrder (w.params.setOrder a ep) es).size=es.size:=by rw[<-Array.length_toList,pk.length_eq,Array.length_toList]
    refine fin (plain (λ_=>0) ((pickOrder (w.params.setOrder a ep) es).toList.map (·.2)) rfl (by rw[List.length_map,Array.length_toList,hl]) ⟨_,O0 (hel.perm pk),(pk.map _).trans hp⟩ λs1 h1 i hi A' E' Q' q'=> ?_)
    refine oC ft h1 hd hf ?_
    rw[List.getElem?_map,Array.getElem?_toList,Option.map_map]at q'
    exact q'
  | false =>
    cases pl:(!t.plain && decide (es.size > 1))with
    | false =>
      rw[if_neg (by simp)]
      refine fin (plain (IK t.place) (es.toList.map (·.2)) rfl (by rw[List.length_map,Array.length_toList]) ⟨_,O0 hel,hp⟩ λs1 h1 i hi A' E' Q' q'=> ?_)
      refine oE ft h1 hd hf L pl hi ?_
      rw[List.getElem?_map,Array.getElem?_toList,Option.map_map]at q'
      exact q'
    | true =>
      rw[if_pos (by simp)]
      refine wpAny_bind (V6 es.size (List.range es.size) s _ (List.length_range) λys d p=> ?_)
      have hy:ys.length=es.size:=by rw[p.length_eq,List.length_range]
      have hys:∀ x∈ys,x<es.size:=λx hx=>List.mem_range.mp (p.mem_iff.mp hx)
      refine wpAny_bind (wpAny_newTuple ?_ (by rw[List.length_map,hy];exact fits_of_scanBound hb))
      refine wpAny_bind (wpAny_setEpoch_of (o:=o) (Heap.get?_push_of_some _ ho) hd hf ?_)
      refine wpAny_bind (wpAny_newObj_type (wpAny_pure ⟨_,rfl,"set_iterator",_,⟨_,Heap.get?_push_size _ rfl,rfl⟩,EU.lookup,?_⟩))
      refine q _ _ d (λb u e=>Heap.get?_push_of_some _ (Heap.get?_push_of_some _ e)) ⟨⟨_,ys.map λp=>(es[p]?.map (·.2)).getD .none,ys.map λp=>(es[p]?.map λe=>iv e.2).getD 0,_,λb hb=> ?_,
        oJ hh ?_ ?_ hd hf rfl (by rw[List.length_map]) λi p e=> ?_,⟨Heap.get?_push_size _ rfl,Heap.get?_push_of_some _ (Heap.get?_push_of_some _ ho),Heap.get?_push_of_some _ (Heap.get?_push_size _ rfl)⟩,?_,?_⟩,?_⟩
      · simp only[List.mem_cons,List.not_mem_nil,or_false]at hb
        rcases hb with rfl | rfl | rfl
        ·right;rw[size_push'];exact Nat.le_succ _
        ·exact .inl rfl
        ·exact .inr (Nat.le_refl _)
      ·rw[size_push'];exact Nat.ne_of_lt (Nat.lt_succ_of_lt hlt)
      ·rw[size_push'];exact Nat.ne_of_lt (Nat.lt_succ_self _)
      · have hp':p<es.size:=hys p (List.mem_of_getElem? e)
        exact⟨es[p],Array.getElem?_eq_getElem hp',by rw[List.getElem?_map,e];simp[hp']⟩
      · have all:∀ (l:List Nat),(∀ x∈l,x<es.size)->IntsAre (l.map λp=>(es[p]?.map (·.2)).getD .none) (l.map λp=>(es[p]?.map λe=>iv e.2).getD 0):=by
          intro l
          induction l with
          | nil=>exact λ_=>.nil
          | cons x r ih =>
            intro hl
            have hx:=hl x (List.mem_cons_self ..)
            obtain⟨tk,z⟩:=OY hel (e:=es[x]) (by simp)
            have e1:(es[x]?.map (·.2)).getD Value.none=Value.int (iv es[x].2) tk:=by rw[Array.getElem?_eq_getElem hx];exact z
            have e2:(es[x]?.map λe=>iv e.2).getD 0=iv es[x].2:=by rw[Array.getElem?_eq_getElem hx];rfl
            rw[List.map_cons,List.map_cons,e1,e2]
            exact .cons _ _ (ih λy hy=>hl y (List.mem_cons_of_mem _ hy))
        exact all ys hys
      · refine(p.map _).trans (List.Perm.trans (List.Perm.of_eq ?_) hp)
        refine List.ext_getElem (by simp) λi h1 h2=> ?_
        have hi:i<es.size:=by simpa using h1
        simp[hi]
      ·rw[size_push'];exact Nat.le_succ _
theorem oN{a:Addr}{Q:Bool->Shared->Prop}(T:s.TypeIs (.ref a) "set")(q:Q false s):wpAny (model P w) A (Builtin.List.listLengthHint (.ref a)) Q E s:=by
 unfold Builtin.List.listLengthHint
 refine wpAny_bind (wpAny_specialOf T PySem.F.slot_set_len.lookup ?_)
 generalize hid:("set.__len__":String)=id0
 wp_delta
 rw[show splitId id0=some ("set","__len__")from by subst hid;decide +kernel]
 subst hid
 refine wpAny_bind (wpAny_isInstance (T:="set") (b:=true) T (by rw[isSubtype_type];kernel_rfl) ?_)
 refine wpAny_ite_split (λz=>absurd z (by decide)) (λ_=> ?_)
 refine wpAny_ite_split (λ_=> ?_) (λz=>absurd (by decide +kernel) z)
 exact wpAny_bind (wpAny_typeOf T (wpAny_pure q))
theorem oO{a:Addr}{ms:List Int}{R:List Value->Shared->Prop}(hh:A.handled=none)(S:IntSet P w s.heap a ms)(hn:ms.length<=sizeLine)
  (q:∀ h' tk d vs ks,(∀ b o,s.heap.get? b=some o->h'.get? b=some o)->s.heap.objs.size<=h'.objs.size->IntsAre vs ks->ks.Perm ms->R vs { s with heap:=h',toks:=tk,drawn:=d }):wpAny (model P w) A (collect (.ref a)) R E s:=by
 have hlt:a<s.heap.objs.size:=let ⟨_,_,_,_,ho,_⟩:=S;Heap.lt_size ho
 unfold collect
 refine wpAny_bind (wpAny_runValue (codeAny_builtin entry_proto_collect' ?_))
 rw[Around.under_plainId PySem.F.plain_proto_collect _]
 show wpAny _ A.in1 (newList [] >>= λl=>again (.builtin "list.__iadd__" ⟨[l,.ref a],[]⟩)) _ _ s
 refine wpAny_bind (wpAny_newObj_type ?_)
 refine wpAny_pure ⟨plainId_quiet PySem.F.plain_list_iadd _,codeAny_builtin entry_list_iadd' ?_⟩
 rw[Around.under_plainId PySem.F.plain_list_iadd _]
 show wpAny _ A.in1 (Builtin.List.listExtendWith (.ref s.heap.objs.size) (.ref a) (.ref s.heap.objs.size)) _ _ _
 generalize eN:s.heap.objs.size=N at hlt ⊢
 have gN:(s.heap.push { cls:=.type "list",data:=.seq ([]:List Value).toArray }).get? N=some { cls:=.type "list",data:=.seq #[] }:=eN ▸ Heap.get?_push_size _ rfl
 have keep1:∀ b o,s.heap.get? b=some o->(s.heap.push { cls:=.type "list",data:=.seq ([]:List Value).toArray }).get? b=some o:=λb o e=>Heap.get?_push_of_some _ e
 have S1:=S.at λo e=>keep1 a o e
 have big:(s.heap.push { cls:=.type "list",data:=.seq ([]:List Value).toArray }).objs.size=N+1:=by rw[size_push',eN]
 revert gN keep1 S1 big
 generalize s.heap.push { cls:=.type "list",data:=.seq ([]:List Value).toArray }=h0
 intro gN keep1 S1 big
 have T1:∀ h':Heap,(∀ b o,h0.get? b=some o->h'.get? b=some o)->∀ tk d,({ s with heap:=h',toks:=tk,drawn:=d }:Shared).TypeIs (.ref a) "set":=λh' k tk d=>by
  obtain⟨o,_,_,_,ho,hex,_⟩:=S1
  exact⟨o,k _ _ ho,hex.1⟩
 unfold Builtin.List.listExtendWith
 refine wpAny_bind (wpAny_typeOf (T:="set") (T1 h0 (λ_ _ e=>e) s.toks s.drawn) ?_)
 have ne:Builtin.List.listSameRef (.ref N) (.ref a)=false:=by
  simp only[Builtin.List.listSameRef,beq_eq_false_iff_ne]
  exact Nat.ne_of_gt hlt
 have n1:(Value.type "set" == Value.type "list")=false:=by decide
 have n2:(Value.type "set" == Value.type "tuple")=false:=by decide
 simp only[ne,n1,n2,Bool.or_false,Bool.false_eq_true,if_false]
 refine wpAny_bind (oM (A:=A.in1) (s:={ s with heap:=h0 }) (by simpa using hh) S1 λI h1 d1 k1 W=> ?_)
 obtain⟨⟨fp,ord,ks,St,hfp,W,st,hi,pk⟩,hI⟩:=W
 have hI:N+1<=I:=big ▸ hI
 have hlen:ord.length=ms.length:=by rw[IntsAre.length hi,pk.length_eq]
 refine wpAny_bind (wpAny_holding (oN (T1 h1 k1 s.toks d1) ?_))
 rw[if_pos (by decide)]
 refine wpAny_bind (wpAny_rule ?_)
 refine wpAny_bind ?_
 show wpAny _ _ (updateSeq N (·.push .none) >>= λ_=>updateSeq N (·.pop)) _ _ _
 have g1:=k1 _ _ gN
 refine wpAny_bind (wpAny_updateSeq (s:={ s with heap:=h1,drawn:=d1 }) g1 rfl ?_)
 have g2:=Heap.get?_update_self (Obj.mapSeq (·.push Value.none)) g1 rfl
 refine wpAny_updateSeq (hz:=by seq_fits) g2 rfl ?_
 have g3:=Heap.get?_update_self (Obj.mapSeq (·.pop)) g2 rfl
 have oth:∀ b o,b≠N->h1.get? b=some o->((h1.update N (Obj.mapSeq (·.push Value.none))).update N (Obj.mapSeq (·.pop))).get? b=some o:=λb o hb e =>
  (Heap.get?_update_other _ _ (Ne.symm hb)).trans ((Heap.get?_update_other _ _ (Ne.symm hb)).trans e)
 have Nfp:N∉fp:=λz=>by
  rcases hfp N z with y | y
  ·exact Nat.ne_of_gt hlt y
  ·have y':h0.objs.size<=N:=y
   rw[big]at y'
   exact absurd y' (Nat.not_succ_le_self _)
 refine wpAny_pure ⟨plainId_quiet PySem.F.plain_extend_loop _,?_⟩
 refine codeAny_extend_loopS W.toS (by rw[hlen];exact hn) N Nfp (.ref N) ord.length 0 _ #[] _ rfl (Nat.zero_le _) (W.frame 0 _ _ st λb hb o e=>oth b o (λz=>Nfp (z ▸ hb)) e) g3 (ItemsOf.nil _) λs' acc c m g4 hacc=> ?_
 show wpAny _ A (load N >>= _) _ _ _
 refine wpAny_bind (wpAny_load g4 ?_)
 refine wpAny_pure ?_
 have eacc:acc.toList=ord:=by
  refine List.ext_getElem? λi=> ?_
  by_cases hlt':i<ord.length
  ·have h3:i<acc.size:=by rw[hacc.1];exact hlt'
   have:=hacc.2 i acc[i] (Array.getElem?_eq_getElem h3)
   rw[Array.getElem?_toList,Array.getElem?_eq_getElem h3,this]
  ·have e1:acc.toList[i]? =none:=List.getElem?_eq_none (by rw[Array.length_toList,hacc.1];omega)
   have e2:ord[i]? =none:=List.getElem?_eq_none (by omega)
   rw[e1,e2]
 show R acc.toList s'
 rw[eacc]
 obtain⟨h3,gn3,dr3,tk3,os3⟩:=s'
 have a1:gn3=s.gens:=m.gens
 have a2:dr3=d1:=m.drawn
 have a3:os3=s.os:=m.os
 subst a1;subst a2;subst a3
 refine q _ _ dr3 ord ks (λb o e=> ?_) (by rw[eN];exact Nat.le_of_lt (Heap.lt_size g4)) hi pk
 have hb:b<N:=eN ▸ Heap.lt_size e
 refine m.heap b o (λz=> ?_) (oth b o (Nat.ne_of_lt hb) (k1 _ _ (keep1 _ _ e)))
 simp only[List.mem_cons,List.not_mem_nil,or_false]at z
 rcases z with z | z
 ·exact Nat.ne_of_lt hb z
 ·exact Nat.ne_of_lt (Nat.lt_of_lt_of_le (Nat.lt_succ_of_lt hb) hI) z
theorem oP{a:Addr}{ms:List Int}{Q:Value->Shared->Prop}(hh:A.handled=none)(S:IntSet P w s.heap a ms)(hn:ms.length<64)
  (q:∀ D h' tk d c out ks,(∀ b o,s.heap.get? b=some o->h'.get? b=some o)->s.heap.objs.size<=D->h'.get? D=some (seqObj "list" out c)->IntsAre out.toList ks->ks.Perm ms->ks.Pairwise (· <=·)->Q (.ref D) { s with heap:=h',toks:=tk,drawn:=d }) :
  wpAny (model P w) A (call (.builtin "sorted") [.ref a]) Q E s:=by
 refine Calls.call_function_entry kind_sorted plain_sorted entry_sorted (args_sorted1 _) ?_
 unfold Builtin.«sorted»
 refine wpAny_bind (m:=checkCount "sorted" 1 1 _) (wpAny_pure ?_)
 refine wpAny_bind (oO (A:=A.in1) (by simpa using hh) S (by rw[sizeLine_eq];omega) λh1 tk d vs ks k1 size_le hi pk=> ?_)
 have hl:vs.length<64:=by rw[IntsAre.length hi,pk.length_eq];exact hn
 refine wpAny_bind (wpAny_newList ?_ (by rw[sizeLine_eq];omega))
 have g:(h1.push (seqObj "list" vs.toArray 0)).get? h1.objs.size=some (seqObj "list" vs.toArray 0):=Heap.get?_push_size _ rfl
 show wpAny _ _ _ _ _ { s with heap:=h1.push (seqObj "list" vs.toArray 0),toks:=tk,drawn:=d }
 refine wpAny_bind (wpAny_holding (wpAny_call_entry slot_list_sort ⟨_,g,rfl⟩ entry_list_sort (list_sort_tree g hi hl λout ks' i1 p1 r1=>⟨_,rfl,?_⟩) (args_list_sort _)))
 obtain⟨c,gc⟩:=sortedHeap_at (n:=0) (out:=out) g
 refine wpAny_pure ⟨_,rfl,q _ _ tk d c out ks' (λb o e=> ?_) size_le gc i1 (p1.trans pk) r1⟩
 have hb:=Heap.lt_size (k1 _ _ e)
 rw[sortedHeap_old (Nat.ne_of_lt hb) (by rw[size_push'];exact Nat.lt_succ_of_lt hb)]
 exact Heap.get?_push_of_some _ (k1 _ _ e)
end
end L2
namespace L2
open PySem PyProof.Rows
section
variable{P:Program}{w:World}{A:Around}{E:Value->Shared->Prop}{s:Shared}
theorem oQ {l:Addr} {its:Array Value} {ns:List Int} {Q:Value->Shared->Prop} (hh:A.handled=none) (hl:s.heap.IsList l its) (hi:IntsAre its.toList ns) (hb:its.size+1<scanBound)
    (q:∀ h' tk,IntSet P w h' s.heap.objs.size (firstMet (λi=>ns.getD i 0) its.size)->(∀ b o,s.heap.get? b=some o->h'.get? b=some o)->Q (.ref s.heap.objs.size) { s with heap:=h',toks:=tk }) :
    wpAny (model P w) A (call (.type "set") [.ref l]) Q E s:=by
  obtain⟨c,tl,mro⟩:=PySem.F.called_set.mro
  have made:=PySem.F.called_set.made
  have sub:=PySem.F.called_set.sub
  refine wpAny_call (codeAny_of_tree ?_)
  show wpAny _ _ (callAny (.type "set") _) _ _ _
  refine wpAny_pure ⟨Code.quiet_builtin _ (by decide +kernel),codeAny_builtin PySem.F.entry_type_call ?_⟩
  rw[Around.under_plain (weight_type_call_type "set" [.ref l] []) rfl]
  have n1:=PySem.F.called_set.notType
  have n2:=PySem.F.called_set.canCreate
  have n3:=PySem.F.typeCall_set_1 (.ref l)
  repeat (any_goals (first | assumption | wp_step))
  generalize eS:({ cls:=.type "set",dict:=none,data:=.set #[] 0 (.fresh 0 0 (G4 w)) }:Obj)=oS
  refine codeAny_mono (nU (E:=E) (Q:=λx s1=>x=.ref s.heap.objs.size/\s1={ s with heap:=s.heap.push oS }) ⟨rfl,by rw[<-eS]⟩) λr s1 hr=> ?_
  cases r with
  | error e=>exact hr
  | ok fl =>
    cases fl with
    | ret x =>
      obtain⟨rfl,rfl⟩:=hr
      have g0:(s.heap.push oS).get? s.heap.objs.size=some oS:=Heap.get?_push_size _ (by rw[<-eS];rfl)
      have T0:Shared.TypeIs { s with heap:=s.heap.push oS } (.ref s.heap.objs.size) "set":=⟨_,g0,by rw[<-eS]⟩
      have i1:=PySem.F.called_set.init.lookup
      have i2:=PySem.F.called_set.init.bind (.ref s.heap.objs.size)
      repeat (any_goals (first | assumption | wp_step))
      refine codeAny_mono (codeAny_call_builtin (R:=wants (λr s2=>r=.none/\∃ h' tk,s2={ s with heap:=h',toks:=tk }/\IntSet P w h' s.heap.objs.size (firstMet (λi=>ns.getD i 0) its.size) ∧
        (∀ b o,s.heap.get? b=some o->h'.get? b=some o)) E) PySem.F.called_set.init.plain PySem.F.entry_set_init (check_set_init_1 T0 ?_)) λr2 s2 hr2=> ?_
      · obtain⟨ol,gl,cl,nl,dl⟩:=hl
        obtain⟨c1,d1,dt1,sl1⟩:=ol
        simp only at cl dl
        subst cl;subst dl
        have gl':=Heap.get?_push_of_some oS gl
        have e1:=PySem.F.sub_list_set
        have e2:=PySem.F.sub_list_frozenset
        have e3:(Value.type "list" == Value.type "dict")=false:=by decide
        have hl1:(s.heap.push oS).IsList l its:=⟨_,gl',rfl,nl,rfl⟩
        have hlt:l<s.heap.objs.size:=Heap.lt_size gl
        have big:=size_push' s.heap oS
        revert gl' hl1 g0 T0 big
        have keep0:∀ b o,s.heap.get? b=some o->(s.heap.push oS).get? b=some o:=λb o e=>Heap.get?_push_of_some _ e
        revert keep0
        generalize s.heap.push oS=h0
        intro keep0 g0 T0 gl' hl1 big
        subst eS
        unfold Builtin.«set.__init__» noKeywords Builtin.Frozenset.updateFrom
        generalize hPI:pyIter=PI
        wp_walk
        subst hPI
        refine wpAny_pyIter_list hl1 ?_
        refine wpAny_bind (wpAny_runValue ?_)
        have hh3:A.in1.in1.in1.handled=none:=by simp[hh]
        have ne1:l≠h0.objs.size:=Nat.ne_of_lt (by rw[big];exact Nat.lt_succ_of_lt hlt)
        have nin:s.heap.objs.size∉[h0.objs.size,l]:=by
          simp only[List.mem_cons,List.not_mem_nil,or_false,not_or]
          exact⟨Nat.ne_of_lt (by rw[big];exact Nat.lt_succ_self _),Nat.ne_of_gt hlt⟩
        refine nS ((Walks.list hh3 _ l ne1 its).toS) s.heap.objs.size nin (λi=>ns.getD i 0) (λi v e=>IntsAre.int_at hi i v (by rw[Array.getElem?_toList];exact e)) hb (its.size - 0) 0 _ (by omega) (Nat.zero_le _)
          ⟨⟨_,Heap.get?_push_size _ rfl,rfl,rfl⟩,hl1.push _⟩ ⟨_,#[],0,_,Heap.get?_push_of_some _ g0,⟨rfl,rfl,rfl⟩,rfl,λe he=>by simp at he,by exact .nil,by decide,by rfl,Led.fresh _⟩ λs3 m S3=> ?_
        obtain⟨h3,g3,d3,tk3,os3⟩:=s3
        have a1:g3=s.gens:=m.gens
        have a2:d3=s.drawn:=m.drawn
        have a3:os3=s.os:=m.os
        subst a1;subst a2;subst a3
        show wpAny _ _ _ _ _ _
        refine wpAny_pure ?_
        show wpAny _ _ (ret Value.none) _ _ _
        refine wpAny_pure ⟨rfl,h3,tk3,rfl,S3,λb o e=> ?_⟩
        have hb:=Heap.lt_size e
        refine m.heap b o ?_ (Heap.get?_push_of_some _ (keep0 _ _ e))
        simp only[List.mem_cons,List.not_mem_nil,or_false,not_or]
        exact⟨Nat.ne_of_lt hb,Nat.ne_of_lt (by rw[big];exact Nat.lt_succ_of_lt hb)⟩
      · cases r2 with
        | error e=>exact hr2
        | ok fl2 =>
          cases fl2 with
          | ret r =>
            obtain⟨rfl,h',tk,rfl,S',k'⟩:=hr2
            repeat (any_goals (first | assumption | wp_step))
            exact q _ _ S' k'
          | _=>exact hr2.elim
    | _=>exact hr.elim
end
end L2
namespace L2
section
variable{X:Cx}
theorem Inv.drawn{pins:List (Addr × Obj)}{σ:St}{H:Hp}{s:Shared}(I:Inv X pins σ H s)(d):Inv X pins σ H { s with drawn:=d } :=
 { ok:=I.ok,os:=I.os,bare:=I.bare,base:=I.base,loc:=I.loc,cell:=I.cell,free:=I.free,freeC:=I.freeC,pin:=I.pin,hok:=I.hok,len:=I.len }
theorem MW:∀ {ns:List Int} {us:List Value},Vals (ns.map V.int) us->IntsAre us ns
 | [],_,.nil=>.nil
 | n::r,_,.cons h t=>by
  obtain⟨tk,rfl⟩:=h
  exact .cons _ _ (MW t)
abbrev V7(X:Cx)(a:Addr)(ms:List Int):HO:=.ext λh=>IntSet X.prog X.w h a ms
theorem oR(hc:X.calm=true):CallR X (.type "set") (λxs H Q=>∃ (p:Addr) (ns:List Int),xs=[.ref p]/\SqL X.K H p (ns.map V.int)/\ns.length<=1000 ∧
  ∀ (a:Addr),H a=none->Q (.ref a) (upd H a (V7 X a (firstMet (λi=>ns.getD i 0) ns.length)))):=by
 intro pins s σ H xs us Q I r h
 obtain⟨p,ns,rfl,hq,hn,q⟩:=h
 obtain⟨u,rfl,rx⟩:=FJ r
 cases rx
 obtain⟨its,r',pl,hz⟩:=I.list hq
 have hi:=MW r'
 have hlen:its.length=ns.length:=IntsAre.length hi
 refine oQ (I.ok.hd hc) pl.isList hi (by rw[List.size_toArray,hlen];exact Nat.lt_of_le_of_lt (Nat.succ_le_succ hn) (by decide)) λh' tk S k=> ?_
 have hz2:its.toArray.size=ns.length:=by rw[List.size_toArray,hlen]
 rw[hz2]at S
 refine⟨.ref s.heap.objs.size,_,I.laid k (Nat.le_refl _) ?_,rfl,q _ (I.hok.fresh (Nat.le_refl _))⟩
 exact⟨S,⟨_,S.choose_spec.choose_spec.choose_spec.choose_spec.1⟩,λh1 h2 z e=>z.at e⟩
theorem oU(hc:X.calm=true):CallR X (.builtin "sorted") (λxs H Q=>∃ (a:Addr) (ms:List Int),xs=[.ref a]/\H a=some (V7 X a ms)/\ms.length<64 ∧
  ∀ (D:Addr) (ks:List Int),H D=none->List.Perm ks ms->ks.Pairwise (· <=·)->Q (.ref D) (upd H D (.lst (ks.map V.int)))):=by
 intro pins s σ H xs us Q I r h
 obtain⟨a,ms,rfl,ha,hn,q⟩:=h
 obtain⟨u,rfl,rx⟩:=FJ r
 cases rx
 obtain⟨S,_,_⟩:=I.hok a _ ha
 refine oP (I.ok.hd hc) S hn λD h' tk d c out ks k hD g hi pk hr=> ?_
 have hl:ks.length<64:=by rw[pk.length_eq];exact hn
 refine⟨.ref D,_,(I.laid (t':=tk) k hD ?_).drawn d,rfl,q D ks (I.hok.fresh hD) pk hr⟩
 exact⟨by rw[List.length_map,sizeLine_eq];omega,out.toList,c,OI hi,g⟩
theorem oV(val:Nat->Int)(n:Nat)(x:Int):x∈firstMet val n↔∃ i,i<n/\val i=x:=by
 have h:=firstMet_any val n x
 rw[Bool.eq_iff_iff,List.any_eq_true,List.any_eq_true]at h
 constructor
 ·intro hx
  obtain⟨y,hy,e⟩:=h.mp ⟨x,hx,beq_self_eq_true x⟩
  obtain⟨i,hi,rfl⟩:=List.mem_map.mp hy
  exact⟨i,List.mem_range.mp hi,eq_of_beq e⟩
 ·rintro ⟨i,hi,rfl⟩
  obtain⟨y,hy,e⟩:=h.mpr ⟨val i,List.mem_map.mpr ⟨i,List.mem_range.mpr hi,rfl⟩,beq_self_eq_true _⟩
  exact eq_of_beq e ▸ hy
theorem O1(val:Nat->Int):∀ n,(firstMet val n).Nodup
 | 0=>by rw[firstMet_zero];exact List.nodup_nil
 | n+1=>by
  rw[firstMet_succ]
  by_cases h:val n∈firstMet val n
  ·rw[V1 h];exact O1 val n
  ·rw[V2 h]
   exact List.nodup_append.mpr ⟨O1 val n,by simp,λa ha b hb e=>by rw[List.mem_singleton]at hb;subst hb;subst e;exact h ha⟩
theorem V8:∀ {l:List Int},l.Pairwise (· <=·)->l.Nodup->l.Pairwise (· <·)
 | [],_,_=>.nil
 | x::r,h,n=>by
  obtain⟨h1,h2⟩:=List.pairwise_cons.mp h
  obtain⟨n1,n2⟩:=List.nodup_cons.mp n
  refine List.pairwise_cons.mpr ⟨λy hy=> ?_,V8 h2 n2⟩
  have:=h1 y hy
  have:x≠y:=λz=>n1 (z ▸ hy)
  omega
def KU(K:W.Frag)(te:TE):TE:=λσ H Q=>te σ H λx H1=>∃ (p:Addr) (ns:List Int),x=.ref p/\SqL K H1 p (ns.map V.int)/\ns.length<64 ∧
 ∀ (a:Addr) (o:HO) (D:Addr) (ks:List Int),H1 a=none->upd H1 a o D=none->ks.Pairwise (· <·)->(∀ x,x∈ks↔x∈ns)->ks.length<=ns.length->Q (.ref D) (upd (upd H1 a o) D (.lst (ks.map V.int)))
def clo(te:TE):TE:=λσ H Q=>∃ C:VK,te σ H C/\∀ x H1,C x H1->Q x H1
theorem PE.clo{e:Expr}{te:TE}(h:PE X e te):PE X e (clo te):=λpins s σ H Q I ⟨C,q,m⟩=>AM (h pins s σ H C I q) λv s' ⟨x,H1,I1,r1,q1⟩=>⟨x,H1,I1,r1,m _ _ q1⟩
theorem O2{e:Expr}{te:TE}{p1 p2 p3 p4:Pos}(hc:X.calm=true)(g1:Gl X "sorted")(m1:X.mg "sorted"=none)(g2:Gl X "set")(m2:X.mg "set"=none)(h:PE X e te)
  (he:starEach [e] X.env=[(false,eval e X.env)]:=by rfl) :
  PE X (.Call (.Name "sorted" p1) [.Call (.Name "set" p2) [e] [] p3] [] p4) (KU X.K te):=λpins s σ H Q I q=>by
 refine(CM (oU hc) g1 m1 (by rfl) (AD (D4 (oR hc) g2 m2 (by rfl) (AD h.clo AG he) (he:=he)) AG)) pins s σ H Q I ?_
 refine⟨_,q,λx H1 ⟨p,ns,e1,hq,hn,q1⟩=> ?_⟩
 subst e1
 refine⟨p,ns,rfl,hq,by omega,λa ha=>⟨a,_,rfl,AK,?_,λD ks hD pk hr=> ?_⟩⟩
 ·exact Nat.lt_of_le_of_lt (firstMet_length_le ..) hn
 ·have nd:=O1 (λi=>ns.getD i 0) ns.length
  refine q1 a _ D ks ha hD (V8 hr (pk.nodup_iff.mpr nd)) (λx=> ?_) (by rw[pk.length_eq];exact firstMet_length_le ..)
  rw[pk.mem_iff,oV]
  refine⟨λ⟨i,hi,e⟩=> ?_,λhx=> ?_⟩
  ·rw[<-e]
   simp[List.getD,hi]
  ·obtain⟨i,hi,e⟩:=List.getElem_of_mem hx
   exact⟨i,hi,by simp[List.getD,hi,e]⟩
end
end L2
namespace L2
def V9(K:W.Frag)(a:Addr)(n:Nat):It :=
 ⟨λi H=>i<n/\∃ xs,SqL K H a xs/\xs.length=n,λi H x H'=>H'=H/\∀ xs,SqL K H a xs->xs[n - 1 - i]? =some x,λi _=>n<=i⟩
def oW(K:W.Frag)(ta:TA):TI:=λσ H R=>ta σ H λvs H1=>∃ a xs,vs=[.ref a]/\SqL K H1 a xs/\R (V9 K a xs.length) H1
section
variable{X:Cx}{tg:Expr}
def oX(K:W.Frag)(te:TE)(ts:TO):TE:=λσ H Q=>te σ H λx H1=>ts σ H1 λk H2=>k=some (-1)/\∃ a xs,x=.ref a/\SqL K H2 a xs/\∀ p,H2 p=none->Q (.ref p) (upd H2 p (.lst xs.reverse))
theorem oY{K:W.Frag}{te:TE}{ts:TO}{σ:St}{H:Hp}{Q:VK}:oX K te ts σ H Q=(te σ H λx H1=>ts σ H1 λk H2=>k=some (-1)/\∃ a xs,x=.ref a/\SqL K H2 a xs/\∀ p,H2 p=none->Q (.ref p) (upd H2 p (.lst xs.reverse))):=rfl
def oZ(ta:TA):TE:=λσ H Q=>ta σ H λvs H1=>∃ k:Nat,vs=[.int k]/\k<=100000/\∀ p,H1 p=none->Q (.ref p) (upd H1 p (.lst (VU k)))
theorem o0{ta:TA}{σ:St}{H:Hp}{Q:VK}:oZ ta σ H Q=(ta σ H λvs H1=>∃ k:Nat,vs=[.int k]/\k<=100000/\∀ p,H1 p=none->Q (.ref p) (upd H1 p (.lst (VU k)))):=rfl
def MX(K:W.Frag):List V->Hp->VK->Prop:=λxs H Q=>∃ (p:Addr) (kvs:List (AS × V)),xs=[.ref p]/\H p=some (.dK kvs)/\∀ l,H l=none->Q (.ref l) (upd H l (.dK kvs))
theorem o1:CallR X (.type "dict") (MX X.K):=by
 intro pins s σ H xs us Q I r h
 obtain⟨p,kvs,rfl,hp,q⟩:=h
 obtain⟨u,rfl,rx⟩:=FJ r
 cases rx
 exact iF I (.inl hp) λl s' hl I'=>⟨.ref l,_,I',rfl,q l hl⟩
theorem o3{K:W.Frag}{p:Addr}{H:Hp}{Q:VK}:MX K [.ref p] H Q=∃ kvs,H p=some (.dK kvs)/\∀ l,H l=none->Q (.ref l) (upd H l (.dK kvs)):=by simp[MX]
end
theorem o6{K:W.Frag}{as:TA}{g:TG}{s1:TS}{D:Ends}{σ:St}{H:Hp}:CD (oW K as) g s1 D σ H=(as σ H λvs H1=>∃ a xs,vs=[.ref a]/\SqL K H1 a xs/\E7 (V9 K a xs.length) g s1 D σ H1):=rfl
section
variable{K:W.Frag}{tt:TT}{cap:List Nat}{σ:St}{H:Hp}{Q:VK}
theorem o7{n:Nat}(p:Nat->Bool)(hn:n<=sizeLine)(ht:∀ i,i<n->∀ QB:Bool->Hp->Prop,QB (p i) H->tt (some (.int (i:Int))::E8 cap σ) H QB)
  (hd:∀ q,H q=none->Q (.ref q) (upd H q (.lst (((List.range n).filter p).map λ(i:Nat)=>V.int i)))):G2 (DS 0 n) (AR 0) tt (AA 0) 1 cap σ H Q:=by
 refine⟨λi m σ' ys H'=>m=n - i/\i<=n/\H'=H/\(∃ x0,σ'=x0::E8 cap σ)/\ys=((List.range i).filter p).map λ(i:Nat)=>V.int i,⟨n,by simp,Nat.zero_le _,rfl,⟨none,rfl⟩,rfl⟩,?_⟩
 rintro i m σ' ys H' ⟨rfl,hi,rfl,⟨x0,rfl⟩,rfl⟩
 by_cases hlt:i<n
 ·refine .inr ⟨hlt,?_,λx H2 y=> ?_⟩
  ·rw[List.length_map]
   have:=List.length_filter_le p (List.range i)
   rw[List.length_range]at this
   omega
  ·obtain⟨e,y⟩:=y
   subst e y
   rw[Int.zero_add]
   simp only[AR,List.set_cons_zero]
   refine ht i hlt _ ?_
   cases hp:p i with
   | true =>
    rw[if_pos rfl]
    refine⟨λv H4=>v=.int i/\H4=H2,λy H4 ⟨e1,e2⟩=>⟨n - (i+1),by omega,rfl,hlt,e2,⟨_,rfl⟩,?_⟩,?_⟩
    ·rw[e1,List.range_succ,List.filter_append,List.map_append]
     simp[hp]
    ·simp[AA]
   | false =>
    rw[if_neg Bool.false_ne_true]
    refine⟨n - (i+1),by omega,rfl,hlt,rfl,⟨_,rfl⟩,?_⟩
    rw[List.range_succ,List.filter_append,List.map_append]
    simp[hp]
 ·have e:i=n:=by omega
  subst e
  exact .inl ⟨Nat.le_refl _,hd⟩
theorem o8{b:Addr}{xs:List V}(p:V->Bool)(hn:xs.length<=sizeLine)(hq:SqL K H b xs)(ht:∀ x∈xs,∀ QB:Bool->Hp->Prop,QB (p x) H->tt (some x::E8 cap σ) H QB)
  (hd:∀ q,H q=none->Q (.ref q) (upd H q (.lst (xs.filter p)))):G2 (FI K b) (AR 0) tt (AA 0) 1 cap σ H Q:=by
 refine⟨λi m σ' ys H'=>m=xs.length - i/\i<=xs.length/\H'=H/\(∃ x0,σ'=x0::E8 cap σ)/\ys=(xs.take i).filter p,⟨xs.length,by simp,Nat.zero_le _,rfl,⟨none,rfl⟩,by simp⟩,?_⟩
 rintro i m σ' ys H' ⟨rfl,hi,rfl,⟨x0,rfl⟩,rfl⟩
 by_cases hlt:i<xs.length
 ·refine .inr ⟨⟨xs,xs[i],hq,by simp[hlt]⟩,?_,λx H2 y=> ?_⟩
  ·have:=List.length_filter_le p (xs.take i)
   rw[List.length_take]at this
   omega
  ·obtain⟨e,y⟩:=y
   subst e
   have hx:=y xs hq
   have et:xs.take (i+1)=xs.take i++[x]:=by
    obtain⟨h1,h2⟩:=List.getElem?_eq_some_iff.mp hx
    rw[<-h2,List.take_append_getElem]
   simp only[AR,List.set_cons_zero]
   refine ht x (List.mem_of_getElem? hx) _ ?_
   cases hp:p x with
   | true =>
    rw[if_pos rfl]
    refine⟨λv H4=>v=x/\H4=H2,λy H4 ⟨e1,e2⟩=>⟨xs.length - (i+1),by omega,rfl,hlt,e2,⟨_,rfl⟩,?_⟩,?_⟩
    ·rw[et,List.filter_append,e1]
     simp[hp]
    ·simp[AA]
   | false =>
    rw[if_neg Bool.false_ne_true]
    refine⟨xs.length - (i+1),by omega,rfl,hlt,rfl,⟨_,rfl⟩,?_⟩
    rw[et,List.filter_append]
    simp[hp]
 ·have e:i=xs.length:=by omega
  subst e
  refine .inl ⟨⟨xs,hq,Nat.le_refl _⟩,λq hq'=> ?_⟩
  rw[List.take_length]
  exact hd q hq'
end
section
variable{K:W.Frag}{td ty tv te:TE}{D:Ends}{σ:St}{H:Hp}{Q:VK}{QB:Bool->Hp->Prop}
theorem o9:MH td ty σ H Q=(td σ H λx H1=>ty σ H1 λy H2=>∃ a v,x=.ref a/\DGet H2 a y (some v)/\Q v H2):=rfl
theorem pA:KJ ty td σ H Q=(ty σ H λy H1=>td σ H1 λx H2=>∃ a o,x=.ref a/\DGet H2 a y o/\Q (.bl o.isSome) H2):=rfl
theorem pB:GY ty td σ H Q=(ty σ H λy H1=>td σ H1 λx H2=>∃ a o,x=.ref a/\DGet H2 a y o/\Q (.bl (!o.isSome)) H2):=rfl
theorem pC:GZ td ty tv D σ H=(tv σ H λv H1=>td σ H1 λx H2=>ty σ H2 λy H3=>∃ a H4,x=.ref a/\DPut H3 a y v H4/\D.nx σ H4):=rfl
theorem pD:OG td ty σ H Q=(td σ H λx H1=>∃ a,x=.ref a/\MK H1 a/\ty σ H1 λy H2=>∃ o,DGet H2 a y o/\Q (o.getD .non) H2):=rfl
theorem pE:IE σ H Q=(∀ p,H p=none->Q (.ref p) (upd H p (.dK []))):=rfl
theorem pF:MI σ H Q=(∀ p,H p=none->Q (.ref p) (upd H p (.dT []))):=rfl
theorem pG:tB te σ H QB=(te σ H λx H1=>∃ c,x=.bl c/\QB c H1):=rfl
theorem pH:KU K te σ H Q=(te σ H λx H1=>∃ (p:Addr) (ns:List Int),x=.ref p/\SqL K H1 p (ns.map V.int)/\ns.length<64 ∧
 ∀ (a:Addr) (o:HO) (D:Addr) (ks:List Int),H1 a=none->upd H1 a o D=none->ks.Pairwise (· <·)->(∀ x,x∈ks↔x∈ns)->ks.length<=ns.length->Q (.ref D) (upd (upd H1 a o) D (.lst (ks.map V.int)))):=rfl
variable{a b:Addr}{i j:Int}{z:Str}{kvs:List (AS × V)}{kvt:List (List AS × V)}{v:V}
theorem dI(e:H a=some (.dK kvs)):DGet H a (.int i) (BC kvs (.inl i)):=DGet.k (k:=.inl i) e
theorem O3(e:H a=some (.dT kvt))(eb:H b=some (.tup [.int i,.int j])):DGet H a (.ref b) (BC kvt [.inl i,.inl j]):=DGet.t (k:=[.inl i,.inl j]) e eb
theorem pJ(e:H a=some (.dT kvt))(eb:H b=some (.tup [.int i,.int j]))(h:BC kvt [.inl i,.inl j]=some v):DGet H a (.ref b) (some v):=h ▸ O3 e eb
theorem pI(e:H a=some (.dK kvs))(hl:kvs.length<100000):DPut H a (.int i) v (upd H a (.dK (CA kvs (.inl i) v))):=DPut.k (k:=.inl i) e (Nat.lt_of_lt_of_le hl (by decide))
theorem WA(e:H a=some (.dT kvt))(eb:H b=some (.tup [.int i,.int j]))(hl:kvt.length<100000):DPut H a (.ref b) v (upd H a (.dT (CA kvt [.inl i,.inl j] v))):=DPut.t (k:=[.inl i,.inl j]) e eb (Nat.lt_of_lt_of_le hl (by decide))
end
end L2
namespace L2
section
variable{X:Cx}
def MY:R2:=λx y H Q=>∃ c,y=.bl c/\(∀ p,x≠.ref p)/\(∀ T,x≠.ty T)/\Q (.bl (decide (x=.bl c))) H
end
theorem SqT.same{K:W.Frag}{H H':Hp}{a:Addr}{xs:List V}(e:Same H H')(h:SqT K H a xs):SqT K H' a xs:=by
 rcases h with(h | ⟨o,h⟩) | h
 ·exact .inl (.inl (e _ _ h))
 ·exact .inl (.inr ⟨o,e _ _ h⟩)
 ·exact .inr h
mutual
theorem Rep.same{K:W.Frag}{H H':Hp}(s:Same H H'):∀ {v:V} {d:PyData},Rep K H v d->Rep K H' v d
 | _,_,.non=>.non
 | _,_,.bl b=>.bl b
 | _,_,.int i=>.int i
 | _,_,.str x=>.str x
 | _,_,.lst h r=>.lst (s.seq h) (RepAll.same s r)
 | _,_,.tup h r=>.tup (SqT.same s h) (RepAll.same s r)
theorem RepAll.same{K:W.Frag}{H H':Hp}(s:Same H H'):∀ {vs:List V} {ds:List PyData},RepAll K H vs ds->RepAll K H' vs ds
 | _,_,.nil=>.nil
 | _,_,.cons h r=>.cons (Rep.same s h) (RepAll.same s r)
end
def Dat(K:W.Frag)(H:Hp)(n:Nat)(v:V)(d:PyData):Prop:=Rep K H v d/\d.canLay0=true/\d.depth<=n
section
variable{K:W.Frag}{H:Hp}{n:Nat}{Q:VK}
theorem Dat.int(i:Int):Dat K H n (.int i) (.int i):=⟨.int i,rfl,Nat.zero_le _⟩
theorem Dat.non:Dat K H n .non .none:=⟨.non,rfl,Nat.zero_le _⟩
theorem O4:∀ {xs:List V} {ds:List PyData},Paired (Dat K H n) xs ds->RepAll K H xs ds/\PyData.canLayAll0 ds=true/\PyData.depthAll ds<=n
 | _,_,.nil=>⟨.nil,rfl,Nat.zero_le _⟩
 | _,_,.cons h t=>by
  obtain⟨a1,a2,a3⟩:=O4 t
  refine⟨.cons h.1 a1,?_,?_⟩
  ·simp[PyData.canLayAll0,h.2.1,a2]
  ·simp only[PyData.depthAll];exact Nat.max_le.mpr ⟨h.2.2,a3⟩
theorem Dat.lst{p:Addr}{xs:List V}{ds:List PyData}(h:SqL K H p xs)(hs:Paired (Dat K H n) xs ds):Dat K H (n+1) (.ref p) (.list ds):=by
 obtain⟨a1,a2,a3⟩:=O4 hs
 exact⟨.lst h a1,by simpa [PyData.canLay0]using a2,by simpa [PyData.depth]using a3⟩
theorem Dat.tup{p:Addr}{xs:List V}{ds:List PyData}(h:SqT K H p xs)(hs:Paired (Dat K H n) xs ds):Dat K H (n+1) (.ref p) (.tuple ds):=by
 obtain⟨a1,a2,a3⟩:=O4 hs
 exact⟨.tup h a1,by simpa [PyData.canLay0]using a2,by simpa [PyData.depth]using a3⟩
theorem Dat.shp{v:V}{d:PyData}(h:Dat K H n v d)(hn:n<=64):shp d:=by
 unfold L2.shp PySem.SeqAt.shaped
 rw[h.2.1]
 simpa using Nat.le_trans h.2.2 hn
theorem FT:∀ (l:List Int),Paired (Dat K H n) (l.map V.int) (l.map PyData.int)
 | []=>.nil
 | x::r=>.cons (.int x) (FT r)
theorem WB{p q:Addr}{d:PyData}(hn:n<=64)(h1:Dat K H n (.ref p) d)(h2:Dat K H n (.ref q) d)(hq:Q (.bl true) H):BZ K (.ref p) (.ref q) H Q:=by
 unfold BZ
 rw[if_neg (by simp[CZ])]
 refine⟨_,_,h1.1,h2.1,h1.shp hn,h1.shp hn,?_⟩
 rw[VT (h1.shp hn)]
 exact hq
theorem WC{p q:Addr}{d:PyData}(hn:n<=64)(h1:Dat K H n (.ref p) d)(h2:Dat K H n (.ref q) d)(hq:Q (.bl false) H):BQ K (.ref p) (.ref q) H Q:=by
 unfold BQ
 rw[if_neg (by simp[CZ])]
 refine⟨_,_,h1.1,h2.1,h1.shp hn,h1.shp hn,?_⟩
 rw[VT (h1.shp hn)]
 exact hq
theorem WD{p q:Addr}{xs:List V}{ds:List PyData}(hn:n<=63)(h1:SqL K H p xs)(hd:Paired (Dat K H n) xs ds)(h2:SqL K H q [])(hq:Q (.bl (!decide (xs=[]))) H):BQ K (.ref p) (.ref q) H Q:=by
 unfold BQ
 rw[if_neg (by simp[CZ])]
 have e1:=Dat.lst h1 hd
 have e2:Dat K H 1 (.ref q) (.list []):=Dat.lst h2 .nil
 refine⟨_,_,e1.1,e2.1,e1.shp (by omega),e2.shp (by omega),?_⟩
 cases hd with
 | nil=>exact hq
 | cons _ _=>exact hq
theorem O5{p q:Addr}{xs:List V}{ds:List PyData}(hn:n<=63)(h1:SqL K H p xs)(hd:Paired (Dat K H n) xs ds)(h2:SqL K H q [])(hq:Q (.bl (decide (xs=[]))) H):BZ K (.ref p) (.ref q) H Q:=by
 unfold BZ
 rw[if_neg (by simp[CZ])]
 have e1:=Dat.lst h1 hd
 have e2:Dat K H 1 (.ref q) (.list []):=Dat.lst h2 .nil
 refine⟨_,_,e1.1,e2.1,e1.shp (by omega),e2.shp (by omega),?_⟩
 cases hd with
 | nil=>exact hq
 | cons _ _=>exact hq
end
end L2
namespace L2
theorem pK{i:Int}{c:Bool}{H:Hp}{Q:VK}:MY (.int i) (.bl c) H Q=Q (.bl false) H:=by simp[MY]
theorem pL{c:Bool}{H:Hp}{Q:VK}:MY .non (.bl c) H Q=Q (.bl false) H:=by simp[MY]
end L2
namespace L2
section
variable{prog:Program}{w:World}{A:Around}{E:Value->Shared->Prop}{s:Shared}{d it:Addr}{od:Obj}{es:Array DictEntry}{ep i:Nat}
theorem pM{Q:Value->Shared->Prop}(hd:(d == sysModules)=false)(ho:s.heap.get? d=some od)(hx:od.ExactDict)(hdat:od.data=.dict es ep)
  (hQ:Q (.ref s.heap.objs.size) { s with heap:=s.heap.push { cls:=.type "dict_keyiterator",data:=.fields #[.ref d,.int 0 0,.int es.size 0,.int ep 0] } }) :
  wpAny (model prog w) A (pyIter (.ref d)) Q E s:=by
 have hT:s.TypeIs (.ref d) "dict":=⟨od,ho,hx.1⟩
 refine wpAny_pyIter_slot hT F.slot_dict_iter (wpAny_call_entry F.slot_dict_iter hT F.entry_dict_iter ?_ (F.args_dict_iter_1 _))
 unfold Builtin.«dict.__iter__» Builtin.Dict.dictSlotNone
 refine wpAny_bind (wpAny_bind (wpAny_notOrdered_dict hT (wpAny_pure ?_)))
 show wpAny _ _ (Builtin.Dict.showsAll d >>= _) _ _ s
 unfold Builtin.Dict.showsAll
 rw[if_neg (by rw[hd];exact Bool.false_ne_true)]
 refine wpAny_bind (wpAny_pure (wpAny_bind (wpAny_dictEntries ho hdat (wpAny_bind (wpAny_dictEpoch ho hdat ?_)))))
 refine wpAny_bind (wpAny_newObj_type (wpAny_pure ⟨_,rfl,"dict_keyiterator",_,⟨_,Heap.get?_push_size _ rfl,rfl⟩,F.slot_dict_keyiterator_next.lookup,?_⟩))
 simpa [rawInt]using hQ
theorem pN{Q:Option Value->Shared->Prop}(hit:s.heap.IsKeyIter it d i es.size ep)(hod:s.heap.get? d=some od)(hdd:od.data=.dict es ep){e:DictEntry}(he:es[i]? =some e)
  (hQ:∀ h',h'.IsKeyIter it d (i+1) es.size ep->Heap.SameBut it s.heap h'->Q (some e.key) { s with heap:=h' }) :
  wpAny (model prog w) A (pyNext (.ref it)) Q E s:=by
 obtain⟨o,ho,hc,hd⟩:=id hit
 unfold pyNext
 refine wpAny_bind (wpAny_attempt (wpAny_callSpecial?_slot (name:=Str.ofString "__next__") hit.typeIs F.slot_dict_keyiterator_next
  (wpAny_call_entry F.slot_dict_keyiterator_next hit.typeIs F.entry_dict_keyiterator_next ?_ (F.args_dict_keyiterator_next_1 _))))
 refine wpAny_bind (wpAny_pure (wpAny_bind (wpAny_bind ?_)))
 first | refine wpAny_bind (wpAny_typeNameOfWhole_keyiter hit.typeIs (wpAny_pure ?_)) | refine wpAny_bind (wpAny_typeNameOf_keyiter hit.typeIs (wpAny_pure ?_))
 refine wpAny_bind (wpAny_fieldsOf ho hd ?_)
 have hown:Builtin.Dict_items.ownsTuple "dict_keyiterator"=false:=by decide
 simp only[hown,Bool.false_eq_true,if_false]
 show wpAny _ _ (if(Value.ref d == Value.none)=true then _ else _) _ _ s
 rw[if_neg (show ¬ ((Value.ref d == Value.none)=true)from Bool.false_ne_true)]
 refine wpAny_bind (wpAny_pure (wpAny_bind (wpAny_dictEntries hod hdd ?_)))
 rw[if_neg (by simp)]
 refine wpAny_bind (wpAny_pure (wpAny_bind (wpAny_dictEpoch hod hdd ?_)))
 rw[if_neg (by simp)]
 refine wpAny_pure ?_
 simp only[show ¬ ((i:Int)<0)from by omega,if_false,Int.toNat_natCast,he]
 refine wpAny_bind ?_
 first | refine wpAny_bind (wpAny_typeNameOfWhole_keyiter hit.typeIs (wpAny_pure ?_)) | refine wpAny_bind (wpAny_typeNameOf_keyiter hit.typeIs (wpAny_pure ?_))
 refine wpAny_bind (wpAny_isOneOf_keyiter hit.typeIs ?_)
 show wpAny _ _ (setField (.ref it) 1 (rawInt ((i:Int)+1)) >>= _) _ _ s
 refine wpAny_bind (wpAny_setField ho hd (by simp) ?_)
 have hit':(s.heap.update it (Obj.mapFields (·.setIfInBounds 1 (rawInt ((i:Int)+1))))).IsKeyIter it d (i+1) es.size ep :=
  ⟨_,Heap.get?_update_self _ ho (Obj.isFreed_of_fields (Obj.data_mapFields hd _)),(Obj.cls_mapFields ..).trans hc,by rw[Obj.data_mapFields hd];simp[rawInt]⟩
 refine wpAny_bind (wpAny_holding (wpAny_bind (wpAny_isOneOf_keyiter (s:={ s with heap:=s.heap.update it (Obj.mapFields (·.setIfInBounds 1 (rawInt ((i:Int)+1)))) }) hit'.typeIs ?_)))
 show wpAny _ _ (pure e.key) _ _ _
 exact wpAny_pure (wpAny_pure ⟨_,rfl,wpAny_pure (hQ _ hit' (Heap.SameBut.update ..))⟩)
theorem pO{Q:Option Value->Shared->Prop}(hh:A.handled=none)(hit:s.heap.IsKeyIter it d i es.size ep)(hod:s.heap.get? d=some od)(hdd:od.data=.dict es ep)(hge:es.size<=i)
  (hQ:∀ h',Heap.ExtBut it s.heap h'->Q none { s with heap:=h' }):wpAny (model prog w) A (pyNext (.ref it)) Q E s:=by
 obtain⟨o,ho,hc,hd⟩:=id hit
 unfold pyNext
 refine wpAny_bind (wpAny_attempt (wpAny_callSpecial?_slot (name:=Str.ofString "__next__") hit.typeIs F.slot_dict_keyiterator_next
  (wpAny_call_entry F.slot_dict_keyiterator_next hit.typeIs F.entry_dict_keyiterator_next ?_ (F.args_dict_keyiterator_next_1 _))))
 refine wpAny_bind (wpAny_pure (wpAny_bind (wpAny_bind ?_)))
 first | refine wpAny_bind (wpAny_typeNameOfWhole_keyiter hit.typeIs (wpAny_pure ?_)) | refine wpAny_bind (wpAny_typeNameOf_keyiter hit.typeIs (wpAny_pure ?_))
 refine wpAny_bind (wpAny_fieldsOf ho hd ?_)
 have hown:Builtin.Dict_items.ownsTuple "dict_keyiterator"=false:=by decide
 simp only[hown,Bool.false_eq_true,if_false]
 show wpAny _ _ (if(Value.ref d == Value.none)=true then _ else _) _ _ s
 rw[if_neg (show ¬ ((Value.ref d == Value.none)=true)from Bool.false_ne_true)]
 refine wpAny_bind (wpAny_pure (wpAny_bind (wpAny_dictEntries hod hdd ?_)))
 rw[if_neg (by simp)]
 refine wpAny_bind (wpAny_pure (wpAny_bind (wpAny_dictEpoch hod hdd ?_)))
 rw[if_neg (by simp)]
 refine wpAny_pure ?_
 simp only[show ¬ ((i:Int)<0)from by omega,if_false,Int.toNat_natCast,Array.getElem?_eq_none hge]
 refine wpAny_bind ?_
 first | refine wpAny_bind (wpAny_typeNameOfWhole_keyiter hit.typeIs (wpAny_pure ?_)) | refine wpAny_bind (wpAny_typeNameOf_keyiter hit.typeIs (wpAny_pure ?_))
 show wpAny _ _ (setField (.ref it) 0 .none >>= _) _ _ s
 refine wpAny_bind (wpAny_setField ho hd (by simp) ?_)
 show wpAny _ _ (newExc (.type "StopIteration") [] >>= _) _ _ _
 refine wpAny_bind ?_
 simp only[newExc,newTuple]
 refine wpAny_bind (wpAny_newObj_type ?_ (by size_fits))
 refine wpAny_bind (m:=firstArgMember _ _) (wpAny_of_eq (a:=Value.none) (by first | rfl | (simp only[firstArgMember];rfl)) ?_)
 refine wpAny_newObj_type ?_ (by size_fits)
 simp only[raiseNew]
 refine wpAny_bind (wpAny_handled ?_)
 rw[show A.in1.handled=none from hh]
 refine wpAny_bind (wpAny_pure (wpAny_throw ?_))
 refine wpAny_bind (wpAny_isInstance (T:="StopIteration") (b:=true) ⟨_,Heap.get?_push_size _ rfl,rfl⟩ isSubtype_stop ?_)
 exact wpAny_pure (hQ _ (((Heap.SameBut.update ..).extBut.push _).push _))
end
def MZ(d:Addr)(o:Obj)(kvs:List (List AS × V)):It :=
 ⟨λi H=>H d=some (.frz o (.dT kvs))/\i<kvs.length,λi H x H'=>H'=H/\∃ b k v,x=.ref b/\kvs[i]? =some (k,v)/\H b=some (.tup (k.map kV)),λi H=>H d=some (.frz o (.dT kvs))/\kvs.length<=i⟩
theorem pP{P:Program}{w:World}{K:W.Frag}{tg:Expr}(d it:Addr){o:Obj}{kvs:List (List AS × V)}{es:Array DictEntry}{ep:Nat}(hdat:o.data=.dict es ep):HZ P w K tg (MZ d o kvs) [it] it (λi h=>h.IsKeyIter it d i es.size ep) where
 mem:=by simp
 obj:=λi h st b hb=>by
  have e:b=it:=by simpa using hb
  subst e
  obtain⟨o,e,c,d⟩:=st
  exact⟨o,e,λv z=>by rw[d]at z;cases z⟩
 keep:=λi h h' st k=>st.at λo e=>k it (by simp) o e
 item:=by
  intro X hP hw hK hc i pins s σ H E I hf st hg
  subst hP hw hK
  obtain⟨hq,hi⟩:=hg
  obtain⟨h1,z,y,xs,r,o',es',ep',g1,g2,g3,g4,g5⟩:=(show ObjOk X.prog X.w H s.heap d (.frz o (.dT kvs))from I.hok d _ hq)
  rw[h1]at g1;cases g1
  rw[hdat]at g3;cases g3
  obtain⟨f0,f1,f2,f3,f4,f5⟩:=hf it (by simp)
  have hx:=List.getElem?_eq_getElem hi
  have hl:xs.length=kvs.length:=r.length.symm
  obtain⟨x,ex,hx2⟩:∃ x,xs[i]? =some x/\(kvs[i].1=x.1/\H x.2.1=some (.tup (kvs[i].1.map kV))/\RelV kvs[i].2 x.2.2):=by
   have hix:i<xs.length:=by omega
   obtain⟨y,e1,e2⟩:=MT r (List.getElem?_eq_getElem hix)
   rw[hx]at e1
   cases e1
   exact⟨_,List.getElem?_eq_getElem hix,e2⟩
  have he:es[i]? =some (entryOfKey (tupleKind (C4 X.prog X.w)) x):=by
   rw[<-Array.getElem?_toList,g4,List.getElem?_map,ex];rfl
  refine pN st h1 hdat he λh' st' sb=> ?_
  have I1:Inv X pins σ H { s with heap:=h' }:=I.turned (t':=s.toks) (λb o hb e=>(sb.2 b hb).trans e) f0 f1 f3 f4 f5
  obtain⟨o2,e2,c2,d2⟩:=id st'
  exact⟨_,rfl,LW (s:={ s with heap:=h' }) e2 c2 d2 (by decide) ⟨.ref x.2.1,H,I1,rfl,⟨rfl,x.2.1,kvs[i].1,kvs[i].2,rfl,hx,hx2.2.1⟩,st',λb hb=>(hf b hb).1⟩⟩
 done:=by
  intro X hP hw hK hc i pins s σ H E I hf st hg
  subst hP hw hK
  obtain⟨hq,hi⟩:=hg
  obtain⟨h1,z,y,xs,r,o',es',ep',g1,g2,g3,g4,g5⟩:=(show ObjOk X.prog X.w H s.heap d (.frz o (.dT kvs))from I.hok d _ hq)
  rw[h1]at g1;cases g1
  rw[hdat]at g3;cases g3
  obtain⟨f0,f1,f2,f3,f4,f5⟩:=hf it (by simp)
  have hes:es.size=kvs.length:=by
   rw[<-Array.length_toList,g4,List.length_map,r.length]
  exact pO (I.ok.hd hc) st h1 hdat (by omega) λh' eb=>⟨rfl,I.turned (t':=s.toks) (λb o hb e=>eb b o hb e) f0 f1 f3 f4 f5⟩
 self:=λ_ _ _ _ _ st h=>wpAny_pyIter_keyiter st h
def O6(te:TE):TI:=λσ H R=>te σ H λx H1=>∃ d kvs,x=.ref d/\H1 d=some (.dT kvs)/\∀ o,R (MZ d o kvs) (upd H1 d (.frz o (.dT kvs)))
theorem pQ{X:Cx}{tg a:Expr}{te:TE}(ha:PE X a te):PI X tg a (O6 te):=by
 intro pins s σ H R I h
 refine AM (ha pins s σ H _ I h) λv s1 ⟨x,H1,I1,r1,d,kvs,e,hd,q⟩=> ?_
 subst e
 cases r1
 obtain⟨z,y,xs,r,o,es,ep,g1,g2,g3,g4,g5⟩:=(show ObjOk X.prog X.w H1 s1.heap d (.dT kvs)from I1.hok d _ hd)
 refine pM y g1 g2 g3 ?_
 have new:ObjOk X.prog X.w (upd H1 d (.frz o (.dT kvs))) s1.heap d (.frz o (.dT kvs)):=⟨g1,(I1.hok d _ hd).stay (λ_ _ _ e=>e) (λb e=>by rw[AH (A6 e hd (by intro z;cases z))];exact e) λb xs e=>by rw[AH (A6 e hd (by intro z;cases z))];exact e⟩
 have I2:Inv X pins σ (upd H1 d (.frz o (.dT kvs))) { s1 with heap:=s1.heap,toks:=s1.toks }:=I1.write (by rw[hd];trivial) (.inl rfl) (λ_ _ _ e=>e) ⟨o,g1⟩ new
 have I3:Inv X pins σ (upd H1 d (.frz o (.dT kvs))) { s1 with heap:=s1.heap.push { cls:=.type "dict_keyiterator",data:=.fields #[.ref d,.int 0 0,.int es.size 0,.int ep 0] } }:=I2.kept (t':=s1.toks) λb o e=>Heap.get?_push_of_some _ e
 exact⟨_,[s1.heap.objs.size],_,_,_,rfl,I3,pP d s1.heap.objs.size g3,⟨_,Heap.get?_push_size _ rfl,rfl,by simp⟩,λb hb=>by
  have e:b=s1.heap.objs.size:=by simpa using hb
  subst e
  exact I2.fpOk (Nat.le_refl _) (I2.hok.fresh (Nat.le_refl _)),q o⟩
theorem pR{d:Addr}{ob:Obj}{kvs:List (List AS × V)}{g:TG}{tb:TS}{D:Ends}{σ:St}{H:Hp}(Pv:Nat->St->Hp->Prop)(h0:Pv 0 σ H)(hl:∀ i σ H,i<=kvs.length->Pv i σ H->H d=some (.frz ob (.dT kvs)))
  (hs:∀ i b k v σ H,kvs[i]? =some (k,v)->H b=some (.tup (k.map kV))->Pv i σ H->g (.ref b) σ H λσ2 H2=>tb { D with nx:=Pv (i+1),ct:=Pv (i+1),bk:=D.nx } σ2 H2) (hd:∀ σ H,Pv kvs.length σ H->D.nx σ H):E7 (MZ d ob kvs) g tb D σ H:=by
 refine⟨λi m σ H=>m=kvs.length - i/\i<=kvs.length/\Pv i σ H,⟨_,rfl,Nat.zero_le _,h0⟩,?_⟩
 rintro i m σ H ⟨rfl,hi,p⟩
 by_cases hlt:i<kvs.length
 ·refine .inr ⟨⟨hl i σ H hi p,hlt⟩,Pv (i+1),λσ' H' p'=>⟨_,by omega,rfl,by omega,p'⟩,?_⟩
  rintro x H' ⟨rfl,b,k,v,rfl,e1,e2⟩
  exact hs i b k v σ H' e1 e2 p
 ·have e:i=kvs.length:=by omega
  subst e
  exact .inl ⟨⟨hl _ σ H hi p,hi⟩,hd σ H p⟩
theorem pS{te:TE}{g:TG}{s1:TS}{D:Ends}{σ:St}{H:Hp}:CD (O6 te) g s1 D σ H=(te σ H λx H1=>∃ d kvs,x=.ref d/\H1 d=some (.dT kvs)/\∀ o,E7 (MZ d o kvs) g s1 D σ (upd H1 d (.frz o (.dT kvs)))):=rfl
end L2
namespace L2
section
variable{X:Cx}
def O7(K:W.Frag):List V->Hp->VK->Prop:=λxs H Q=>∃ (p:Addr) (ns:List Int),xs=[.ref p]/\SqL K H p (ns.map V.int)/\ns≠[]/\∀ m,m∈ns->(∀ x∈ns,x<=m)->Q (.int m) H
theorem pT(hc:X.calm=true):CallR X (.builtin "max") (O7 X.K):=by
 intro pins s σ H xs us Q I r h
 obtain⟨p,ns,rfl,hp,hne,q⟩:=h
 obtain⟨u,rfl,ru⟩:=FJ r
 cases ru
 obtain⟨its,rv,pl,hz⟩:=I.list hp
 have hi:=MW rv
 obtain⟨zs,e⟩:=hi.allInts.items
 have hns:ns=zs.toList.map (·.1):=by rw[<-hi.numsOf,<-nums_intItems,<-e]
 have hsz:0<zs.size:=by
  have h3:=List.length_pos_iff.mpr hne
  rw[hns,List.length_map,Array.length_toList]at h3
  exact h3
 have hl:=pl.isList
 rw[e]at hl
 refine max_intList (I.ok.hd hc) hl hsz λv h' tk hv hk=> ?_
 obtain⟨t,rfl⟩:=intItems_at hv
 obtain⟨h1,h2⟩:=argBest_gt (numAt zs) (zs.size - 1)
 refine⟨.int _,H,I.kept (t':=tk) hk,⟨t,rfl⟩,q _ ?_ λx hx=> ?_⟩
 ·rw[hns,numAt_eq]
  exact getD_mem (by rw[List.length_map,Array.length_toList];omega)
 ·rw[hns]at hx
  obtain⟨j,hj,rfl⟩:=mem_getD hx
  rw[List.length_map,Array.length_toList]at hj
  rw[<-numAt_eq]
  exact h2 j (by omega)
theorem pU{K:W.Frag}{p:Addr}{H:Hp}{Q:VK}{ns:List Int}(h:SqL K H p (ns.map V.int))(hne:ns≠[])(q:∀ m,m∈ns->(∀ x∈ns,x<=m)->Q (.int m) H):O7 K [.ref p] H Q:=⟨p,ns,rfl,h,hne,q⟩
end
section
variable{K:W.Frag}{tt:TT}{te:TE}{cap:List Nat}{σ:St}{H:Hp}{Q:VK}
end
end L2
namespace L2
section
variable{X:Cx}{tg:Expr}
end
section
variable{K:W.Frag}{tt:TT}{cap:List Nat}{σ:St}{H:Hp}{Q:VK}
def Fc(lo:Int)(n:Nat):List Int:=(List.range n).map λ(i:Nat)=>lo - (i:Int)
end
theorem WE{K:W.Frag}{H:Hp}{p:Addr}{xs:List V}{i:Int}{n:Nat}{v:V}{Q:VK}(h:SqL K H p xs)(hi:i=(n:Int) - xs.length)(hl:n<xs.length)(hx:xs[n]? =some v)(q:Q v H):AT K (.ref p) (.int i) H Q:=by
 refine .inl ⟨p,xs,i,v,rfl,rfl,h,?_,q⟩
 unfold GE E4
 rw[if_neg (by omega),if_pos (by omega)]
 have e:(i+(xs.length:Int)).toNat=n:=by omega
 simp only[Option.bind_some,e]
 exact hx
section
variable{P:Program}{w:World}{A:Around}{E:Value->Shared->Prop}{s:Shared}
end
section
variable{X:Cx}
end
end L2
namespace L2
section
variable{P:Program}{w:World}{A:Around}{E:Value->Shared->Prop}{s:Shared}
end
def EnSt(e it l:Addr)(i:Nat)(h:Heap):Prop:=(∃ old,IsEnum h e it i old)/\h.IsListIter it l i
theorem EnSt.lt{e it l:Addr}{i:Nat}{h:Heap}(q:EnSt e it l i h):∀ b∈[e,it],b<h.objs.size:=by
 obtain⟨⟨old,h1⟩,o,h2,_⟩:=q
 intro b hb
 simp only[List.mem_cons,List.not_mem_nil,or_false]at hb
 rcases hb with rfl | rfl
 ·exact Heap.lt_size h1
 ·exact Heap.lt_size h2
section
variable{X:Cx}
end
end L2
namespace L2
section
variable{X:Cx}
def O8(K:W.Frag):List V->Hp->VK->Prop:=λxs H Q=>∃ i j,xs=[.int i,.int j]/\Q (.int (if j<i then j else i)) H
theorem pV(hc:X.calm=true):CallR X (.builtin "min") (O8 X.K):=fK hc
theorem pW{K:W.Frag}{i j:Int}{H:Hp}{Q:VK}:O8 K [.int i,.int j] H Q=Q (.int (if j<i then j else i)) H:=propext ⟨λ⟨_,_,e,q⟩=>by cases e;exact q,λq=>⟨_,_,rfl,q⟩⟩
end
end L2
namespace L2
section
variable{P:Program}{w:World}{A:Around}{E:Value->Shared->Prop}{s:Shared}
end
section
variable{X:Cx}
end
end L2
namespace L2
section
variable{X:Cx}{pins:List (Addr × Obj)}{σ:St}{H:Hp}{s:Shared}
variable{tg iter elt:Expr}{ifs:List Expr}{scope:Scope}{pos:Pos}{td:TE}{g:TG}{tt:TT}{te:TE}{tn cn:List Str}{cap:List Nat}
end
end L2
namespace L2
theorem FnScope.go{N P:List Str}{sc:Scope}(h1:sc.kind=.function:=by exact rfl)(h2:sc.isCoroutine=false:=by exact rfl)(h3:sc.isGenerator=false:=by exact rfl)(h4:N.Nodup:=by decide +kernel)(h5:N.take P.length=P:=by exact rfl)(h6:∀ x∈P,sc.names.lookup x=some .local\/sc.names.lookup x=some .cell:=by decide +kernel)(h7:∀ y∈sc.names,y.2≠.free:=by decide +kernel):FnScope N P sc:=⟨h1,h2,h3,h4,h5,h6,h7⟩
theorem Room.m{j k:Nat}{A:Around}(r:Room k A)(h:j<=k:=by decide):Room j A:=r.mono h
abbrev FP(P:Program)(w:World)(K:W.Frag)(mg:Str->Option Value)(base:Heap)(k:Nat)(f:Addr)(fd:FuncData)(ps:List Str)(sp:Sp):Prop:=FnOk P w K mg base (CS P w) k f fd ps sp
theorem Fun.okF{P:Program}{w:World}{K:W.Frag}{mg:Str->Option Value}{base:Heap}{x qual:Str}{st:Stmt}{f:Addr}{fd:FuncData}{N ps:List Str}{k:Nat}{sp:Sp}(F:Fun K x qual st f fd)(rd:(St->XK)->TS)(S:FnScope N ps (AO st))(len:∀ {vs H Q E},sp vs H Q E->vs.length=ps.length)
  (ok:∀ {vs H Q E},sp vs H Q E->rd (λ_=>E) { nx:=λ_ H'=>Q .non H',rt:=Q } (A8 N vs) H)
  (hb:∀ (cdv:Value) (A:Around) (outer:List Env) (s:Shared) (H:Hp) (E:XK),Room k (A.deeper (envOfC qual (AO st) s.heap.objs.size f cdv))->XOk (E3 (CS P w) P w K mg base N qual (AO st) f cdv A outer s H E) (λ_=>E) →
   PSs (E3 (CS P w) P w K mg base N qual (AO st) f cdv A outer s H E) (A9 st) (rd λ_=>E)):FP P w K mg base (k+1) f fd ps sp :=
 F.okE S (λ_ _ _ _=>len) λcdv A outer s H _ _ E hr h=>⟨_,hb cdv A outer s H E hr iT,ok h⟩
section
variable{X:Cx}{pos:Pos}
theorem BE(i:Nat){x:Str}{e:Expr}{te:TE}{pos':Pos}(hN:X.N.Nodup)(he:PE X e te)(hi:X.N[i]? =some x:=by exact rfl)(hx:HU X.env.scope x:=by exact Or.inl rfl)(hs:swapsWith e (some (.Name x pos')) pos.line X.env=pure false:=by rfl)(hf:X.fn x=true\/X.env.scope.names.lookup x=some .local:=by first | exact .inl rfl | exact .inr rfl | assumption) :
  PS X (.Assign [.Name x pos'] e pos) (A4 te (AR i)):=TJ hN hi hx he hs hf
theorem CT(i:Nat){x:Str}(hN:X.N.Nodup)(hi:X.N[i]? =some x:=by exact rfl)(hx:HU X.env.scope x:=by exact Or.inl rfl)(hf:X.fn x=true\/X.env.scope.names.lookup x=some .local:=by first | exact .inl rfl | exact .inr rfl | assumption):PG X (.Name x pos) (AR i):=HY hN hi hx hf
end
end L2
namespace L2
def IL(t t':TE):TE:=λσ H Q=>t σ H Q\/t' σ H Q
def M0(C:Addr):TE:=λσ H Q=>∀ x dx,H x=none->H dx=none->dx≠x->Q (.ref x) (upd (upd H dx (.own x)) x (.ins C dx []))
theorem pX{t t':TE}{σ:St}{H:Hp}{Q:VK}:IL t t' σ H Q=(t σ H Q\/t' σ H Q):=rfl
theorem pY{C:Addr}{σ:St}{H:Hp}{Q:VK}:M0 C σ H Q=∀ x dx,H x=none->H dx=none->dx≠x->Q (.ref x) (upd (upd H dx (.own x)) x (.ins C dx [])):=rfl
section
variable{X:Cx}{C:Addr}{x:Str}{p pos:Pos}{e:Expr}{t t':TE}
theorem M3(h:PE X e t)(h':PE X e t'):PE X e (IL t t'):=λpins s σ H Q I z=>z.elim (h pins s σ H Q I) (h' pins s σ H Q I)
structure M4(K:W.Frag)(mg:Str->Option Value)(C:Addr)(x:Str):Prop where
 makes:W.makesIn K C=true
 init:W.findIn K (.ref C) "__init__"=some (some (.builtin "object.__init__"))
 kp:W.keepIn K (.ref C)=true
 nm:mg x=some (.ref C)
theorem pZ{pins:List (Addr × Obj)}{σ:St}{H:Hp}{s:Shared}{Q:VK}(M:M4 X.K X.mg C x)(I:Inv X pins σ H s)
  (h:∀ x dx,H x=none->H dx=none->dx≠x->Q (.ref x) (upd (upd H dx (.own x)) x (.ins C dx []))) :
  wpAny (model X.prog X.w) X.A (call (.ref C) []) (EP X pins σ Q) X.xe s:=by
 have hq:=h (s.heap.objs.size+1) s.heap.objs.size (I.hok.fresh (Nat.le_succ _)) (I.hok.fresh (Nat.le_refl _)) (Nat.ne_of_lt (Nat.lt_succ_self _))
 have I2:=Inv.made (C:=C) I
 have Y:=W.makes_of (M:=model X.prog X.w) I.kIn M.makes
 refine wpAny_call (fU I.kIn M.makes M.init (λself=>W.Looks.of_pure (W.oi_bind self)) ?_)
 have g1:((s.heap.push W.emptyDict).push (W.instObj C s.heap.objs.size)).get? (s.heap.objs.size+1)=some (W.instObj C s.heap.objs.size):=by
  have e:(s.heap.push W.emptyDict).objs.size=s.heap.objs.size+1:=size_push' ..
  rw[<-e]
  exact Heap.get?_push_size _ rfl
 have t1:W.Looks (model X.prog X.w) ((s.heap.push W.emptyDict).push (W.instObj C s.heap.objs.size)) (typeOf (.ref (s.heap.objs.size+1))) (.ref C):=(W.Looks.ld g1).andThen .now
 have t2:W.Looks (model X.prog X.w) ((s.heap.push W.emptyDict).push (W.instObj C s.heap.objs.size)) (isInstance (.ref (s.heap.objs.size+1)) (.type "object")) true:=t1.andThen (Y.top.keeps λb o e=>Heap.get?_push_of_some _ (Heap.get?_push_of_some _ e))
 refine codeAny_call_builtin W.oi_plain W.entry_oi (@W.check_slot (model X.prog X.w) _ _ _ "object.__init__" "object" "__init__" (.ref (s.heap.objs.size+1)) [] [] _ W.oi_kind W.oi_split t2 (W.oi_args (.ref (s.heap.objs.size+1))) ?_)
 rw[W.oi_run]
 exact wpAny_pure (And.intro rfl ⟨V.ref (s.heap.objs.size+1),_,I2,rfl,hq⟩)
theorem WF(M:M4 X.K X.mg C x)(hg:Gl X x)(hdb:(x ==("__debug__":Str))=false:=by decide):PE X (.Call (.Name x p) [] [] pos) (M0 C):=by
 intro pins s σ H Q I h
 refine wpAny_Call_Name_kw (HV I hg M.nm ?_ hdb)
 exact W.callWith_K0 I.kIn M.kp (pZ M I h)
def WG(K:W.Frag):V->List V->Hp->VK->Prop:=λx vs H Q=>∃ (l:Addr) (ns:List Int) (k:Int),x=.ref l/\vs=[.int k]/\SqL K H l (ns.map V.int)/\k∈ns/\ns.length<=1000/\Q (.int (ns.idxOf k:Nat)) H
theorem p0:MtR X "list.index" (WG X.K):=by
 intro pins s σ H x vs v us Q I rx rv h
 obtain⟨l,ns,k,rfl,rfl,hl,hk,hn,q⟩:=h
 cases rx
 obtain⟨u,rfl,ru⟩:=rv.one
 obtain⟨t,rfl⟩:=ru
 obtain⟨its,r,pl,hz⟩:=I.list hl
 have hi:=MW r
 obtain⟨⟨cls,dd,data,sl⟩,ho,hc,n,hd⟩:=pl.isList
 simp only at hc hd
 subst hc hd
 have hlen:=hi.length
 have hj:ns.idxOf k<ns.length:=List.idxOf_lt_length_iff.mpr hk
 refine call_meets PySem.F.slot_list_index ⟨_,ho,rfl⟩ PySem.F.entry_list_index (PySem.F.args_list_index_2 _ _)
  (PySem.SeqAt.list_indexAt l its.toArray n dd sl (.int k t) (isInt k) (ns.idxOf k) (by simpa [hlen]using hj) (by omega) ?_ ?_) ⟨ho,λy hy=>(eq_isInt k t hi y (by simpa using hy)).at _ _,⟨.int _,H,I.tok _,⟨_,rfl⟩,q⟩⟩
 ·show isInt k its[ns.idxOf k]=true
  rw[isInt_at k hi _ (by omega) hj]
  simpa using List.getElem_idxOf hj
 ·intro j hjs hlt
  show isInt k its[j]=false
  rw[isInt_at k hi j (by simpa using hjs) (by omega)]
  exact ne_of_lt_idxOf hlt _
end
end L2
namespace L2
abbrev Ad:=String->Addr
def SameBut(F:Addr->Prop)(H H':Hp):Prop:=∀ b o,H b=some o->¬ F b->H' b=some o
structure C7(K:W.Frag)(a:Ad):Prop where
 cl:Cls K (a "Plank")
 nC:NoAttr K (a "Plank") "contents"
 nW:NoAttr K (a "Plank") "width"
 nN:NoAttr K (a "Plank") "written"
def pf(cl:Addr)(w n:Int):List (Str × V):=[("contents",.ref cl),("width",.int w),("written",.int n)]
theorem WH:¬ ("contents":Str)="width":=by decide +kernel
theorem O9:¬ ("contents":Str)="written":=by decide +kernel
theorem PB:¬ ("width":Str)="written":=by decide +kernel
theorem M5(cl:Addr)(w n:Int):(pf cl w n).lookup ("contents":Str)=some (V.ref cl):=by simp[pf]
theorem WI(cl:Addr)(w n:Int):(pf cl w n).lookup ("width":Str)=some (V.int w):=by
 have h:(("width":Str) == "contents")=false:=beq_eq_false_iff_ne.mpr (Ne.symm WH)
 simp[pf,List.lookup_cons,h]
theorem WJ(cl:Addr)(w n:Int):(pf cl w n).lookup ("written":Str)=some (V.int n):=by
 have h:(("written":Str) == "contents")=false:=beq_eq_false_iff_ne.mpr (Ne.symm O9)
 have h2:(("written":Str) == "width")=false:=beq_eq_false_iff_ne.mpr (Ne.symm PB)
 simp[pf,List.lookup_cons,h,h2]
theorem p8(cl:Addr)(w n:Int):A0 "written" (.int n) (A0 "width" (.int w) (A0 "contents" (.ref cl) []))=pf cl w n:=by
 simp only[A0,pf]
 rw[if_neg WH]
 simp only[A0]
 rw[if_neg O9,if_neg PB]
theorem p9(cl:Addr)(w n m:Int):A0 "written" (.int m) (pf cl w n)=pf cl w m:=by
 simp only[A0,pf]
 rw[if_neg O9,if_neg PB]
 simp
theorem G5(cl:Addr)(w n:Int){m:Str}(h1:¬ m="contents")(h2:¬ m="width")(h3:¬ m="written"):(pf cl w n).lookup m=none:=by
 have e1:=beq_eq_false_iff_ne.mpr h1
 have e2:=beq_eq_false_iff_ne.mpr h2
 have e3:=beq_eq_false_iff_ne.mpr h3
 simp[pf,List.lookup_cons,e1,e2,e3]
structure PlankAt(a:Ad)(H:Hp)(p cl:Addr)(w:Nat)(rows:List (List V))(n:Nat):Prop where
 ob:∃ dx,H p=some (.ins (a "Plank") dx (pf cl w n))
 ls:∃ ts:List Addr,H cl=some (.lst (ts.map V.ref))/\Paired (λt r=>H t=some (.tup r)) ts rows
 wd:∀ r∈rows,r.length=w
 sz:rows.length<=1000
 sw:w<=1000
theorem PlankAt.ne{a:Ad}{H:Hp}{p cl:Addr}{w:Nat}{rows:List (List V)}{n:Nat}(P:PlankAt a H p cl w rows n):p≠cl:=by
 obtain⟨⟨dx,h1⟩,⟨ts,h2,_⟩,_⟩:=P
 exact A6 h1 h2 (by intro z;cases z)
theorem PlankAt.keep{a:Ad}{H H':Hp}{p cl:Addr}{w:Nat}{rows:List (List V)}{n:Nat}(P:PlankAt a H p cl w rows n)(h1:H' p=H p)(h2:H' cl=H cl)(h3:∀ b xs,H b=some (.tup xs)->H' b=some (.tup xs)):PlankAt a H' p cl w rows n:=by
 obtain⟨⟨dx,e1⟩,⟨ts,e2,e3⟩,r1,r2,r3⟩:=P
 exact⟨⟨dx,h1.trans e1⟩,⟨ts,h2.trans e2,Paired.mapP e3 λt r q=>h3 t r q⟩,r1,r2,r3⟩
theorem PlankAt.same{a:Ad}{H H':Hp}{p cl:Addr}{w:Nat}{rows:List (List V)}{n:Nat}(P:PlankAt a H p cl w rows n)(s:Same H H'):PlankAt a H' p cl w rows n:=by
 obtain⟨⟨dx,e1⟩,⟨ts,e2,e3⟩,r1,r2,r3⟩:=P
 exact⟨⟨dx,s _ _ e1⟩,⟨ts,s _ _ e2,Paired.mapP e3 λt r q=>s _ _ q⟩,r1,r2,r3⟩
def FB(K:W.Frag)(a:Ad):Sp:=λvs H Q _=>∃ (p dx:Addr) (m w:Nat),vs=[.ref p,.int m,.int w]/\C7 K a/\H p=some (.ins (a "Plank") dx [])/\m<=1000/\1<=w/\w<=1000 ∧
 ∀ cl H',H cl=none->PlankAt a H' p cl w (List.replicate m (List.replicate w .non)) 0->SameBut (· =p) H H'->Q .non H'
def FU(K:W.Frag)(a:Ad):Sp:=λvs H Q _=>∃ p cl w rows n,vs=[.ref p]/\C7 K a/\PlankAt a H p cl w rows n/\Q (.int rows.length) H
def KW(K:W.Frag)(a:Ad):Sp:=λvs H Q _=>∃ (p cl:Addr) (w:Nat) (rows:List (List V)) (n:Nat),vs=[.ref p]/\C7 K a/\PlankAt a H p cl w rows n/\Q (.int w) H
def IM(K:W.Frag)(a:Ad):Sp:=λvs H Q _=>∃ (p cl:Addr) (w:Nat) (rows:List (List V)) (n:Nat),vs=[.ref p]/\C7 K a/\PlankAt a H p cl w rows n/\Q (.int n) H
def FV(K:W.Frag)(a:Ad):Sp:=λvs H Q E=>∃ (p cl:Addr) (w:Nat) (rows:List (List V)) (n:Nat) (b:Int),vs=[.ref p,.int b]/\C7 K a/\PlankAt a H p cl w rows n ∧
 (0<=b->b<rows.length->Q .non H)/\(b<0\/rows.length<=b->E (.ref (a "NoBlock")) none H)
def GL(K:W.Frag)(a:Ad):Sp:=λvs H Q E=>∃ (p cl:Addr) (w:Nat) (rows:List (List V)) (n:Nat) (b:Int),vs=[.ref p,.int b]/\C7 K a/\PlankAt a H p cl w rows n ∧
 (∀ (i:Nat) row,b=i->rows[i]? =some row->∀ l,H l=none->Q (.ref l) (upd H l (.lst row)))/\(b<0\/rows.length<=b->E (.ref (a "NoBlock")) none H)
def KY(K:W.Frag)(a:Ad):Sp:=λvs H Q E=>∃ (p cl:Addr) (w:Nat) (rows:List (List V)) (n:Nat) (b:Int) (v:Addr) (xs:List V),vs=[.ref p,.int b,.ref v]/\C7 K a/\PlankAt a H p cl w rows n/\SqL K H v xs/\xs.length<=2000 ∧
 (∀ (i:Nat),b=i->i<rows.length->xs.length=w->∀ H',PlankAt a H' p cl w (rows.set i xs) (n+1)->SameBut (λx=>x=p\/x=cl) H H'->Q .non H') ∧
 (b<0\/rows.length<=b\/xs.length≠w->E (.ref (a "NoBlock")) none H)
end L2
namespace L2
theorem CI{K:W.Frag}{H:Hp}{p:Addr}{xs:List V}{i:Int}{n:Nat}{v:V}{Q:VK}(h:H p=some (.tup xs))(hi:i=n)(hx:xs[n]? =some v)(q:Q v H):AT K (.ref p) (.int i) H Q :=
 .inr (.inl ⟨p,xs,i,v,rfl,rfl,SqT.of h,by rw[hi];exact UP hx,q⟩)
theorem M6{C C' dx dx':Addr}{fs fs':List (Str × V)}(h:fs≠fs'):HO.ins C dx fs≠HO.ins C' dx' fs':=by
 intro z
 injection z with _ _ z
 exact h z
theorem qA{K:W.Frag}{H:Hp}{p:Addr}{xs:List V}{lo hi:Option Int}{Q:VK}(h:SqL K H p xs)(q:∀ r,H r=none->Q (.ref r) (upd H r (.lst (FL xs lo hi)))):MR K (.ref p) lo hi H Q:=.inl ⟨p,xs,rfl,h,q⟩
theorem SameBut.refl{F:Addr->Prop}(H:Hp):SameBut F H H:=λ_ _ e _=>e
theorem SameBut.trans{F:Addr->Prop}{H H' H2:Hp}(s:SameBut F H H')(t:SameBut F H' H2):SameBut F H H2:=λb o e n=>t _ _ (s _ _ e n) n
theorem SameBut.wide{F G:Addr->Prop}{H H':Hp}(s:SameBut F H H')(i:∀ x,F x->G x):SameBut G H H':=λb o e n=>s _ _ e λz=>n (i _ z)
theorem Same.sb{F:Addr->Prop}{H H':Hp}(s:Same H H'):SameBut F H H':=λb o e _=>s b o e
theorem SqL.on{K:W.Frag}{H H':Hp}{x:Addr}{xs:List V}(h:SqL K H x xs)(k:∀ o,H x=some o->H' x=some o):SqL K H' x xs:=by
 rcases h with(h | ⟨o,h⟩) | h
 ·exact .inl (.inl (k _ h))
 ·exact .inl (.inr ⟨o,k _ h⟩)
 ·exact .inr h
theorem SqL.sb{K:W.Frag}{F:Addr->Prop}{H H':Hp}{x:Addr}{xs:List V}(h:SqL K H x xs)(s:SameBut F H H')(f:∀ o,H x=some o->¬ F x):SqL K H' x xs:=by
 rcases h with(h | ⟨o,h⟩) | h
 ·exact .inl (.inl (s _ _ h (f _ h)))
 ·exact .inl (.inr ⟨o,s _ _ h (f _ h)⟩)
 ·exact .inr h
theorem SameBut.upd{F:Addr->Prop}{H H':Hp}{p:Addr}{o:HO}(s:SameBut F H H')(h:F p\/H p=none):SameBut F H (upd H' p o):=λb u e n=>by
 have:b≠p:=by
  rcases h with h | h
  ·exact λz=>n (z ▸ h)
  ·exact AY e h
 rw[AH this];exact s _ _ e n
structure Ch where
 blk:Nat
 cell:Nat
 val:V
 nd:List Int
def G6:List Ch->Int->Int->Option Nat
 | [],_,_=>none
 | c::r,i,j=>if(c.blk:Int)=i/\(c.cell:Int)=j then some r.length else G6 r i j
def D0(cs:List Ch)(i j:Int):Option Nat:=G6 cs.reverse i j
def EK:List Ch->Nat->List Nat
 | [],_=>[]
 | c::r,b=>if c.blk=b then EK r b++[r.length]else EK r b
def CH(cs:List Ch)(b:Nat):List Nat:=EK cs.reverse b
theorem WK(cs:List Ch)(c:Ch)(i j:Int):D0 (cs++[c]) i j=if(c.blk:Int)=i/\(c.cell:Int)=j then some cs.length else D0 cs i j:=by
 simp[D0,G6]
theorem qB(cs:List Ch)(c:Ch)(b:Nat):CH (cs++[c]) b=if c.blk=b then CH cs b++[cs.length]else CH cs b:=by
 simp[CH,EK]
theorem PD:∀ {l:List Ch} {i j:Int} {k:Nat},G6 l i j=some k->k<l.length
 | [],_,_,_,h=>by cases h
 | c::r,i,j,k,h=>by
  unfold G6 at h
  split at h
  ·cases h;simp
  ·have:=PD h
   simp only[List.length_cons];omega
theorem qC{cs:List Ch}{i j:Int}{k:Nat}(h:D0 cs i j=some k):k<cs.length:=by
 have:=PD h
 rwa [List.length_reverse]at this
theorem PF:∀ {l:List Ch} {b k:Nat},k∈EK l b->k<l.length
 | [],_,_,h=>by cases h
 | c::r,b,k,h=>by
  unfold EK at h
  split at h
  ·rcases List.mem_append.mp h with h | h
   ·have:=PF h
    simp only[List.length_cons];omega
   ·rw[List.mem_singleton.mp h];simp
  ·have:=PF h
   simp only[List.length_cons];omega
theorem M7{cs:List Ch}{b k:Nat}(h:k∈CH cs b):k<cs.length:=by
 have:=PF h
 rwa [List.length_reverse]at this
theorem WL:∀ (l:List Ch) (b:Nat),(EK l b).length<=l.length
 | [],_=>Nat.le_refl _
 | c::r,b=>by
  have:=WL r b
  unfold EK
  split<;>simp<;>omega
theorem WM(cs:List Ch)(b:Nat):(CH cs b).length<=cs.length:=by
 have:=WL cs.reverse b
 rwa [List.length_reverse]at this
def DQ(pl:Addr)(v:V)(nt:Addr):List (Str × V):=[("place",.ref pl),("value",v),("needs",.ref nt)]
def bf(gp m mi lt ou:Addr):List (Str × V):=[("ground",.ref gp),("made",.ref m),("made_in",.ref mi),("latest",.ref lt),("outs",.ref ou)]
def GM(a b:Str):Bool:=a == b
section
variable{pl nt gp m mi lt ou:Addr}{v:V}
theorem C8{a b:Str}(h:GM a b=false):(a == b)=false:=h
theorem WN:(DQ pl v nt).lookup ("place":Str)=some (V.ref pl):=by simp[DQ]
theorem qD:(DQ pl v nt).lookup ("value":Str)=some v:=by
 simp[DQ,List.lookup_cons,C8 (a:="value") (b:="place") (by decide +kernel)]
theorem WO:(DQ pl v nt).lookup ("needs":Str)=some (V.ref nt):=by
 simp[DQ,List.lookup_cons,C8 (a:="needs") (b:="place") (by decide +kernel),C8 (a:="needs") (b:="value") (by decide +kernel)]
theorem M8{f g:Str}{x y:V}{r:List (Str × V)}(h:GM g f=false):A0 f y ((g,x)::r)=(g,x)::A0 f y r:=by
 have:¬ g=f:=λe=>by rw[e]at h;simp[GM]at h
 simp[A0,this]
theorem M9{f:Str}{y:V}:A0 f y []=[(f,y)]:=rfl
theorem qE:A0 "needs" (.ref nt) (A0 "value" v (A0 "place" (.ref pl) []))=DQ pl v nt:=by
 rw[M9,M8 (by decide +kernel),M9,M8 (by decide +kernel),M8 (by decide +kernel),M9]
 rfl
theorem KZ:(bf gp m mi lt ou).lookup ("ground":Str)=some (V.ref gp):=by simp[bf]
theorem FW:(bf gp m mi lt ou).lookup ("made":Str)=some (V.ref m):=by
 simp[bf,List.lookup_cons,C8 (a:="made") (b:="ground") (by decide +kernel)]
theorem PH:(bf gp m mi lt ou).lookup ("made_in":Str)=some (V.ref mi):=by
 simp[bf,List.lookup_cons,C8 (a:="made_in") (b:="ground") (by decide +kernel),C8 (a:="made_in") (b:="made") (by decide +kernel)]
theorem WP:(bf gp m mi lt ou).lookup ("latest":Str)=some (V.ref lt):=by
 simp[bf,List.lookup_cons,C8 (a:="latest") (b:="ground") (by decide +kernel),C8 (a:="latest") (b:="made") (by decide +kernel),C8 (a:="latest") (b:="made_in") (by decide +kernel)]
theorem K0:(bf gp m mi lt ou).lookup ("outs":Str)=some (V.ref ou):=by
 simp[bf,List.lookup_cons,C8 (a:="outs") (b:="ground") (by decide +kernel),C8 (a:="outs") (b:="made") (by decide +kernel),C8 (a:="outs") (b:="made_in") (by decide +kernel),C8 (a:="outs") (b:="latest") (by decide +kernel)]
theorem B0{x:Str}(h:(GM x "ground" || GM x "made" || GM x "made_in" || GM x "latest" || GM x "outs")=false):(bf gp m mi lt ou).lookup x=none:=by
 simp only[Bool.or_eq_false_iff]at h
 obtain⟨⟨⟨⟨h1,h2⟩,h3⟩,h4⟩,h5⟩:=h
 simp[bf,List.lookup_cons,C8 h1,C8 h2,C8 h3,C8 h4,C8 h5]
theorem qF:A0 "outs" (.ref ou) (A0 "latest" (.ref lt) (A0 "made_in" (.ref mi) (A0 "made" (.ref m) (A0 "ground" (.ref gp) []))))=bf gp m mi lt ou:=by
 repeat (first | rw[M9] | rw[M8 (by decide +kernel)])
 rfl
end
structure WQ(K:W.Frag)(C D:Addr):Prop where
 cl:Cls K C
 nG:NoAttr K C "ground"
 nM:NoAttr K C "made"
 nI:NoAttr K C "made_in"
 nL:NoAttr K C "latest"
 nO:NoAttr K C "outs"
 cc:Cls K D
 nP:NoAttr K D "place"
 nV:NoAttr K D "value"
 nN:NoAttr K D "needs"
def ChAt(D:Addr)(H:Hp)(x:Addr)(c:Ch):Prop:=∃ dx pl nt,H x=some (.ins D dx (DQ pl c.val nt))/\H pl=some (.tup [.int c.blk,.int c.cell])/\H nt=some (.tup (c.nd.map V.int))
structure BA where
 b:Addr
 gp:Addr
 m:Addr
 mi:Addr
 lt:Addr
 ou:Addr
 ls:List Addr
 cl:Addr
def BA.F(A:BA)(x:Addr):Prop:=x=A.m\/x=A.mi\/x∈A.ls\/x=A.lt\/x=A.ou\/x=A.cl
def KeysOk(kvo:List (AS × V))(n:Nat):Prop:=(kvo.map (·.1)).Nodup/\∀ p∈kvo,∃ x:Nat,p.1=Sum.inl (x:Int)/\x<n
theorem KeysOk.mono{kvo:List (AS × V)}{n m:Nat}(h:KeysOk kvo n)(hm:n<=m):KeysOk kvo m:=⟨h.1,λp hp=>by obtain⟨x,e,hx⟩:=h.2 p hp;exact⟨x,e,by omega⟩⟩
theorem KeysOk.len{kvo:List (AS × V)}{n:Nat}(h:KeysOk kvo n):kvo.length<=n:=by
 have:=List.Nodup.length_le_of_subset (l₂:=(List.range n).map λ(k:Nat)=>(Sum.inl (k:Int):AS)) h.1 λk hk=>by
  obtain⟨p,hp,rfl⟩:=List.mem_map.mp hk
  obtain⟨x,e,hx⟩:=h.2 p hp
  rw[e]
  exact List.mem_map.mpr ⟨x,List.mem_range.mpr hx,rfl⟩
 simpa using this
theorem KeysOk.put{kvo:List (AS × V)}{n:Nat}(h:KeysOk kvo n){k:Nat}(hk:k<n)(hn:BC kvo (.inl (k:Int))=none)(v:V):KeysOk (CA kvo (.inl (k:Int)) v) n:=by
 refine⟨iL v h.1 hn,λp hp=> ?_⟩
 rw[U0 v hn]at hp
 rcases List.mem_append.mp hp with hp | hp
 ·exact h.2 p hp
 ·rw[List.mem_singleton.mp hp];exact⟨k,rfl,hk⟩
structure BookIn(C D:Addr)(H:Hp)(A:BA)(w:Nat)(cs:List Ch)(outs:Int->Bool):Prop where
 ob:∃ dx,H A.b=some (.ins C dx (bf A.gp A.m A.mi A.lt A.ou))
 made:∃ chs:List Addr,H A.m=some (.lst (chs.map V.ref))/\Paired (ChAt D H) chs cs
 mil:H A.mi=some (.lst (A.ls.map V.ref))
 mic:∀ (i:Nat) l,A.ls[i]? =some l->H l=some (.lst ((CH cs i).map λ(k:Nat)=>V.int k))
 nd:A.ls.Nodup
 lat:∃ kvs,H A.lt=some (.dT kvs)/\(∀ i j:Int,BC kvs [.inl i,.inl j]=(D0 cs i j).map λ(k:Nat)=>V.int k)/\kvs.length<=cs.length
 out:∃ kvo,H A.ou=some (.dK kvo)/\(∀ k:Int,(BC kvo (.inl k)).isSome=outs k)/\KeysOk kvo cs.length
 sz:cs.length<=990
 inn:∀ c∈cs,c.blk<A.ls.length/\c.cell<w
 need:∀ (k:Nat) c,cs[k]? =some c->(∀ x∈c.nd,0<=x/\x<k)/\c.nd.Pairwise (· <·)/\c.nd.length<=100
 ap:A.m≠A.mi/\A.m∉A.ls/\A.mi∉A.ls/\A.cl≠A.m/\A.cl≠A.mi/\A.cl∉A.ls
 chn:∀ (k:Nat) c,cs[k]? =some c->∀ j,D0 (cs.take k) c.blk c.cell=some j->(j:Int)∈c.nd
structure BookAt(a:Ad)(C:Addr)(H:Hp)(A:BA)(w:Nat)(rows:List (List V))(n:Nat)(cs:List Ch)(outs:Int->Bool):Prop where
 bk:BookIn C (a "Change") H A w cs outs
 pk:PlankAt a H A.gp A.cl w rows n
 nb:A.ls.length=rows.length
def EL(o:Option HO):Prop:=(∀ xs,o≠some (.tup xs))/\∀ C dx fs,o≠some (.ins C dx fs)
theorem ChAt.sb{D:Addr}{G:Addr->Prop}{H H':Hp}(s:SameBut G H H')(g:∀ x,G x->EL (H x)){x:Addr}{c:Ch}(h:ChAt D H x c):ChAt D H' x c:=by
 obtain⟨dx,pl,nt,e1,e2,e3⟩:=h
 exact⟨dx,pl,nt,s _ _ e1 λz=>(g _ z).2 _ _ _ e1,s _ _ e2 λz=>(g _ z).1 _ e2,s _ _ e3 λz=>(g _ z).1 _ e3⟩
theorem BookIn.sb{C D:Addr}{G:Addr->Prop}{H H':Hp}{A:BA}{w:Nat}{cs:List Ch}{outs:Int->Bool}(B:BookIn C D H A w cs outs)(s:SameBut G H H')(g:∀ x,G x->EL (H x))(f:∀ x,G x->¬ A.F x):BookIn C D H' A w cs outs:=by
 obtain⟨⟨dx,e1⟩,⟨chs,e2,e3⟩,e4,e5,e6,⟨kvs,e7,e8⟩,⟨kvo,e9,e10⟩,r1,r2,r3,r4,r5⟩:=B
 refine⟨⟨dx,s _ _ e1 λz=>(g _ z).2 _ _ _ e1⟩,⟨chs,s _ _ e2 λz=>f _ z (.inl rfl),Paired.mapP e3 λx c h=>h.sb s g⟩,s _ _ e4 λz=>f _ z (.inr (.inl rfl)),λi l h=>s _ _ (e5 i l h) λz=>f _ z (.inr (.inr (.inl (List.mem_of_getElem? h)))),e6,
  ⟨kvs,s _ _ e7 λz=>f _ z (.inr (.inr (.inr (.inl rfl)))),e8⟩,⟨kvo,s _ _ e9 λz=>f _ z (.inr (.inr (.inr (.inr (.inl rfl))))),e10⟩,r1,r2,r3,r4,r5⟩
theorem PlankAt.sbL{a:Ad}{G:Addr->Prop}{H H':Hp}{p cl:Addr}{w:Nat}{rows:List (List V)}{n:Nat}(P:PlankAt a H p cl w rows n)(s:SameBut G H H')(g:∀ x,G x->EL (H x))(h:¬ G cl):PlankAt a H' p cl w rows n:=by
 obtain⟨⟨dx,e1⟩,⟨ts,e2,e3⟩,r1,r2,r3⟩:=P
 exact⟨⟨dx,s _ _ e1 λz=>(g _ z).2 _ _ _ e1⟩,⟨ts,s _ _ e2 h,Paired.mapP e3 λt r q=>s _ _ q λz=>(g _ z).1 _ q⟩,r1,r2,r3⟩
theorem BookAt.sb{a:Ad}{C:Addr}{G:Addr->Prop}{H H':Hp}{A:BA}{w:Nat}{rows:List (List V)}{n:Nat}{cs:List Ch}{outs:Int->Bool}(B:BookAt a C H A w rows n cs outs)(s:SameBut G H H')(g:∀ x,G x->EL (H x))(f:∀ x,G x->¬ A.F x):BookAt a C H' A w rows n cs outs :=
 ⟨B.bk.sb s g f,B.pk.sbL s g λz=>f _ z (.inr (.inr (.inr (.inr (.inr rfl))))),B.nb⟩
theorem BookAt.same{a:Ad}{C:Addr}{H H':Hp}{A:BA}{w:Nat}{rows:List (List V)}{n:Nat}{cs:List Ch}{outs:Int->Bool}(B:BookAt a C H A w rows n cs outs)(s:Same H H'):BookAt a C H' A w rows n cs outs :=
 B.sb (G:=λ_=>False) (Same.sb s) (λ_ z=>z.elim) λ_ z=>z.elim
theorem BookAt.off{a:Ad}{C:Addr}{H:Hp}{A:BA}{w:Nat}{rows:List (List V)}{n:Nat}{cs:List Ch}{outs:Int->Bool}(B:BookAt a C H A w rows n cs outs){x:Addr}(h:H x=none):¬ A.F x:=by
 obtain⟨⟨_,⟨chs,e2,_⟩,e4,e5,_,⟨kvs,e7,_⟩,⟨kvo,e9,_⟩,_⟩,⟨_,⟨ts,e11,_⟩,_⟩,_⟩:=B
 rintro (z | z | z | z | z | z)
 ·rw[z,e2]at h;cases h
 ·rw[z,e4]at h;cases h
 ·obtain⟨i,hi,e⟩:=List.getElem_of_mem z
  have:=e5 i x (by rw[<-e];exact List.getElem?_eq_getElem hi)
  rw[this]at h;cases h
 ·rw[z,e7]at h;cases h
 ·rw[z,e9]at h;cases h
 ·rw[z,e11]at h;cases h
theorem qG{α :Type}{l:List α}{x: α}(h:x∈l):∃ i:Nat,l[i]? =some x:=by
 obtain⟨i,hi,e⟩:=List.getElem_of_mem h
 exact⟨i,by rw[<-e];exact List.getElem?_eq_getElem hi⟩
theorem G7{H:Hp}{x:Addr}{xs:List V}(h:H x=some (.lst xs)):EL (H x):=by
 rw[h];exact⟨λ_ z=>(by cases z),λ_ _ _ z=>(by cases z)⟩
theorem WR{H:Hp}{x:Addr}{xs:List (AS × V)}(h:H x=some (.dK xs)):EL (H x):=by
 rw[h];exact⟨λ_ z=>(by cases z),λ_ _ _ z=>(by cases z)⟩
theorem PJ{H:Hp}{x:Addr}{xs:List (List AS × V)}(h:H x=some (.dT xs)):EL (H x):=by
 rw[h];exact⟨λ_ z=>(by cases z),λ_ _ _ z=>(by cases z)⟩
theorem BookAt.loose{a:Ad}{C:Addr}{H:Hp}{A:BA}{w:Nat}{rows:List (List V)}{n:Nat}{cs:List Ch}{outs:Int->Bool}(B:BookAt a C H A w rows n cs outs){x:Addr}(h:A.F x):EL (H x):=by
 obtain⟨⟨_,⟨chs,e2,_⟩,e4,e5,_,⟨kvs,e7,_⟩,⟨kvo,e9,_⟩,_⟩,⟨_,⟨ts,e11,_⟩,_⟩,_⟩:=B
 rcases h with z | z | z | z | z | z
 ·exact G7 (z ▸ e2)
 ·exact G7 (z ▸ e4)
 ·obtain⟨i,e⟩:=qG z
  exact G7 (e5 i x e)
 ·exact PJ (z ▸ e7)
 ·exact WR (z ▸ e9)
 ·exact G7 (z ▸ e11)
structure Fd(cs:List Ch)(outs:Int->Bool)(ns:List Int)(R:Int->Bool):Prop where
 all:∀ x∈ns,R x=true
 up:∀ (k:Nat) (c:Ch),cs[k]? =some c->outs k=false->R k=true->∀ y∈c.nd,R y=true
 only:∀ x,R x=true->x∈ns\/∃ (k:Nat) (c:Ch),cs[k]? =some c/\outs k=false/\R k=true/\x∈c.nd
end L2
namespace L2
def FC(nd:List Int)(there:Int->Bool):Option Int:=nd.find? λx=> !there x
theorem qH{nd:List Int}{there:Int->Bool}(h:∀ x∈nd,there x=true):FC nd there=none:=List.find?_eq_none.mpr λx hx=>by rw[h x hx];exact Bool.false_ne_true
structure Pass where
 out:List Nat
 held:List (Nat × Int)
 gone:Int->Bool
def BV(cs:List Ch)(outs:Int->Bool)(s:Pass)(k:Nat):Pass :=
 if outs k || s.gone k then s else
  match (cs[k]?).bind λc=>FC c.nd λx=>outs x || s.gone x with
  | none=>⟨s.out++[k],s.held,λx=>s.gone x || x ==(k:Int)⟩
  | some l=>⟨s.out,s.held++[(k,l)],s.gone⟩
def outcome(cs:List Ch)(outs taken:Int->Bool)(b:Nat):Pass:=(CH cs b).foldl (BV cs outs) ⟨[],[],taken⟩
def FX(cs:List Ch)(outs:Int->Bool)(r:List V)(k:Nat):List V :=
 if outs k then match cs[k]? with
  | some c=>r.set c.cell c.val
  | none=>r
 else r
def FY(cs:List Ch)(outs:Int->Bool)(b:Nat)(row:List V):List V:=(CH cs b).foldl (FX cs outs) row
def C3(cs:List Ch)(outs:Int->Bool)(b:Nat):Int->Bool:=λx=>outs x || (outcome cs outs (λ_=>false) b).out.any λ(k:Nat)=>x ==(k:Int)
theorem qI{cs:List Ch}{outs:Int->Bool}(r:List V)(k:Nat):(FX cs outs r k).length=r.length:=by
 unfold FX
 split
 ·split
  ·rw[List.length_set]
  ·rfl
 ·rfl
theorem PK{cs:List Ch}{outs:Int->Bool}:∀ (l:List Nat) (r:List V),(l.foldl (FX cs outs) r).length=r.length
 | [],r=>rfl
 | k::l,r=>by rw[List.foldl_cons,PK l,qI]
theorem WT{cs:List Ch}{outs:Int->Bool}{b:Nat}{row:List V}:(FY cs outs b row).length=row.length:=PK _ _
theorem WU{cs:List Ch}{outs:Int->Bool}:∀ (l:List Nat) (s:Pass),(l.foldl (BV cs outs) s).out.length+(l.foldl (BV cs outs) s).held.length<=s.out.length+s.held.length+l.length
 | [],s=>by simp
 | k::l,s=>by
  rw[List.foldl_cons]
  have h:=WU (cs:=cs) (outs:=outs) l (BV cs outs s k)
  have h2:(BV cs outs s k).out.length+(BV cs outs s k).held.length<=s.out.length+s.held.length+1:=by
   unfold BV
   split
   ·omega
   ·split<;>simp<;>omega
  simp only[List.length_cons]
  omega
theorem PL{α β :Type}(f: β -> α -> β)(b: β){l:List α}{i:Nat}{x: α}(h:l[i]? =some x):(l.take (i+1)).foldl f b=f ((l.take i).foldl f b) x:=by
 obtain⟨hi,e⟩:=List.getElem?_eq_some_iff.mp h
 rw[<-e,<-List.take_append_getElem hi,List.foldl_append]
 rfl
theorem WV(b:Nat):∀ l:List Ch,EK l b=(List.range l.length).filter λ(k:Nat)=>(l.reverse[k]?).any λc=>c.blk == b
 | []=>rfl
 | c::r=>by
  have ih:=WV b r
  have e:(List.range r.length).filter (λ(k:Nat)=>((c::r).reverse[k]?).any λc=>c.blk == b)=EK r b:=by
   rw[ih]
   refine List.filter_congr λk hk=> ?_
   rw[List.reverse_cons,List.getElem?_append_left (by rw[List.length_reverse];exact List.mem_range.mp hk)]
  have e2:(c::r).reverse[r.length]? =some c:=by
   rw[List.reverse_cons,List.getElem?_append_right (by rw[List.length_reverse];exact Nat.le_refl _)]
   simp
  rw[List.length_cons,List.range_succ,List.filter_append,e]
  show(if c.blk=b then EK r b++[r.length]else EK r b)=_
  by_cases h:c.blk=b
  ·rw[if_pos h]
   simp[e2,h]
  ·rw[if_neg h]
   simp[e2,h]
theorem PM(cs:List Ch)(b:Nat):CH cs b=(List.range cs.length).filter λ(k:Nat)=>(cs[k]?).any λc=>c.blk == b:=by
 have:=WV b cs.reverse
 rw[List.reverse_reverse,List.length_reverse]at this
 exact this
theorem WW(cs:List Ch)(b:Nat):(CH cs b).Pairwise (· <·):=by
 rw[PM]
 exact List.pairwise_lt_range.filter _
theorem qJ{cs:List Ch}{b k:Nat}:k∈CH cs b↔∃ c,cs[k]? =some c/\c.blk=b:=by
 rw[PM,List.mem_filter,List.mem_range]
 constructor
 ·rintro ⟨h,h2⟩
  rw[List.getElem?_eq_getElem h]at h2 ⊢
  exact⟨_,rfl,by simpa using h2⟩
 ·rintro ⟨c,e,rfl⟩
  exact⟨(List.getElem?_eq_some_iff.mp e).1,by rw[e];simp⟩
theorem WX{cs:List Ch}{outs:Int->Bool}(s:Pass)(k:Nat):BV cs outs s k=s\/(outs k=false/\BV cs outs s k=⟨s.out++[k],s.held,λx=>s.gone x || x ==(k:Int)⟩)\/∃ l,BV cs outs s k=⟨s.out,s.held++[(k,l)],s.gone⟩:=by
 unfold BV
 split
 ·exact .inl rfl
 ·rename_i hc
  simp only[Bool.or_eq_true,not_or,Bool.not_eq_true]at hc
  split
  ·exact .inr (.inl ⟨hc.1,rfl⟩)
  ·exact .inr (.inr ⟨_,rfl⟩)
theorem PN{cs:List Ch}{outs:Int->Bool}:∀ (l:List Nat) (s:Pass),∃ l',(l.foldl (BV cs outs) s).out=s.out++l'/\l'.Sublist l/\(∀ k∈l',outs k=false)/\∀ x,(l.foldl (BV cs outs) s).gone x=(s.gone x || l'.any λ(k:Nat)=>x ==(k:Int))
 | [],s=>⟨[],by simp,.slnil,by simp,by simp⟩
 | k::l,s=>by
  rw[List.foldl_cons]
  obtain⟨l',h1,h2,h3,h4⟩:=PN (cs:=cs) (outs:=outs) l (BV cs outs s k)
  rcases WX (cs:=cs) (outs:=outs) s k with e | ⟨ho,e⟩ | ⟨l0,e⟩
  ·rw[e]at h1 h4 ⊢
   exact⟨l',h1,h2.cons _,h3,h4⟩
  ·rw[e]at h1 h4 ⊢
   refine⟨k::l',by rw[h1];simp,h2.cons_cons _,λx hx=> ?_,λx=> ?_⟩
   ·rcases List.mem_cons.mp hx with rfl | hx
    ·exact ho
    ·exact h3 x hx
   ·rw[h4,List.any_cons,Bool.or_assoc]
  ·rw[e]at h1 h4 ⊢
   exact⟨l',h1,h2.cons _,h3,h4⟩
theorem WY{cs:List Ch}{outs:Int->Bool}{b:Nat}:(outcome cs outs (λ_=>false) b).out.Pairwise (· <·)/\(∀ k∈(outcome cs outs (λ_=>false) b).out,outs k=false/\k∈CH cs b)/\∀ x,(outcome cs outs (λ_=>false) b).gone x=(outcome cs outs (λ_=>false) b).out.any λ(k:Nat)=>x ==(k:Int):=by
 obtain⟨l',h1,h2,h3,h4⟩:=PN (cs:=cs) (outs:=outs) (CH cs b) ⟨[],[],λ_=>false⟩
 have e:(outcome cs outs (λ_=>false) b).out=l':=by unfold outcome;rw[h1];rfl
 rw[e]
 exact⟨(WW cs b).sublist h2,λk hk=>⟨h3 k hk,h2.subset hk⟩,λx=>by unfold outcome;rw[h4];simp⟩
def ToldAt(H:Hp)(t ol hl:Addr)(out:List Nat)(held:List (Nat × Int)):Prop:=H t=some (.tup [.ref ol,.ref hl])/\H ol=some (.lst (out.map λ(k:Nat)=>V.int k))/\∃ hs:List Addr,H hl=some (.lst (hs.map V.ref))/\Paired (λx (p:Nat × Int)=>H x=some (.tup [.int p.1,.int p.2])) hs held
theorem ToldAt.same{H H':Hp}{t ol hl:Addr}{out:List Nat}{held:List (Nat × Int)}(h:ToldAt H t ol hl out held)(s:Same H H'):ToldAt H' t ol hl out held:=by
 obtain⟨h1,h2,hs,h3,h4⟩:=h
 exact⟨s _ _ h1,s _ _ h2,hs,s _ _ h3,Paired.mapP h4 λx p e=>s _ _ e⟩
theorem ToldAt.sb{F:Addr->Prop}{H H':Hp}{t ol hl:Addr}{out:List Nat}{held:List (Nat × Int)}(h:ToldAt H t ol hl out held)(s:SameBut F H H')(n:∀ x,F x->∀ xs,H x≠some (.tup xs))(n1:¬ F ol)(n2:¬ F hl):ToldAt H' t ol hl out held:=by
 obtain⟨h1,h2,hs,h3,h4⟩:=h
 exact⟨s _ _ h1 λz=>n _ z _ h1,s _ _ h2 n1,hs,s _ _ h3 n2,Paired.mapP h4 λx p e=>s _ _ e λz=>n _ z _ e⟩
def PP(cs:List Ch)(r:List V)(k:Nat):List V:=match cs[k]? with
 | some c=>r.set c.cell c.val
 | none=>r
def PQ(cs:List Ch)(ks:List Nat)(row:List V):List V:=ks.foldl (PP cs) row
theorem qK(cs:List Ch)(O:Int->Bool)(b:Nat)(row:List V):FY cs O b row=PQ cs ((CH cs b).filter λ(k:Nat)=>O k) row:=by
 unfold FY PQ
 rw[List.foldl_filter]
 rfl
theorem qL{cs:List Ch}{outs:Int->Bool}{b k:Nat}:C3 cs outs b k=true↔outs k=true\/k∈(outcome cs outs (λ_=>false) b).out:=by
 unfold C3
 rw[Bool.or_eq_true,List.any_eq_true]
 constructor
 ·rintro (h | ⟨k',hk',e⟩)
  ·exact .inl h
  ·have e:(k:Int)=k':=by simpa using e
   have e:k=k':=by omega
   exact .inr (e ▸ hk')
 ·rintro (h | h)
  ·exact .inl h
  ·exact .inr ⟨k,h,by simp⟩
theorem WZ{cs:List Ch}{v:V}:∀ {ks:List Nat} {row:List V},v∈PQ cs ks row->v∈row\/∃ c∈cs,v=c.val
 | [],row,h=>.inl h
 | k::r,row,h=>by
  rcases WZ (ks:=r) (row:=PP cs row k) h with h | h
  ·unfold PP at h
   cases e:cs[k]? with
   | none=>rw[e]at h;exact .inl h
   | some c =>
    rw[e]at h
    rcases List.mem_or_eq_of_mem_set h with h | h
    ·exact .inl h
    ·exact .inr ⟨c,List.mem_of_getElem? e,h⟩
  ·exact .inr h
end L2
namespace L2
theorem W0{i j:Int}:∀ {l:List Ch} {k:Nat},G6 l i j=some k->∃ c,l.reverse[k]? =some c/\(c.blk:Int)=i/\(c.cell:Int)=j
 | [],k,h=>by cases h
 | c1::r,k,h=>by
  unfold G6 at h
  by_cases hp:(c1.blk:Int)=i/\(c1.cell:Int)=j
  ·rw[if_pos hp]at h
   cases h
   refine⟨c1,?_,hp⟩
   rw[List.reverse_cons,List.getElem?_append_right (by rw[List.length_reverse];exact Nat.le_refl _)]
   simp
  ·rw[if_neg hp]at h
   obtain⟨c,e,h2⟩:=W0 h
   refine⟨c,?_,h2⟩
   have:=PD h
   rw[List.reverse_cons,List.getElem?_append_left (by rw[List.length_reverse];exact this)]
   exact e
theorem qM{cs:List Ch}{i j:Int}{k:Nat}(h:D0 cs i j=some k):∃ c,cs[k]? =some c/\(c.blk:Int)=i/\(c.cell:Int)=j:=by
 obtain⟨c,e,h2⟩:=W0 (l:=cs.reverse) h
 rw[List.reverse_reverse]at e
 exact⟨c,e,h2⟩
theorem qN{cs:List Ch}{outs:Int->Bool}{m:Nat}{c:Ch}(ec:cs[m]? =some c)(ho:outs m=false)(low:∀ k:Nat,k<m->outs k=true)(hn:∀ x∈c.nd,0<=x/\x<m):∃ r,(outcome cs outs (λ_=>false) c.blk).out=m::r:=by
 have hm:m∈CH cs c.blk:=qJ.mpr ⟨c,ec,rfl⟩
 obtain⟨l1,l2,e⟩:=List.append_of_mem hm
 have rise:=WW cs c.blk
 rw[e]at rise
 have h1:∀ k∈l1,outs k=true:=λk hk=>low k ((List.pairwise_append.mp rise).2.2 k hk m (List.mem_cons_self ..))
 have s1:∀ (l:List Nat) (s:Pass),(∀ k∈l,outs k=true)->l.foldl (BV cs outs) s=s:=λl=>by
  induction l with
  | nil=>exact λ_ _=>rfl
  | cons k l ih =>
   intro s h
   rw[List.foldl_cons]
   have:BV cs outs s k=s:=by
    unfold BV
    rw[h k (List.mem_cons_self ..),Bool.true_or,if_pos rfl]
   rw[this]
   exact ih s λk' hk=>h k' (List.mem_cons_of_mem _ hk)
 unfold outcome
 rw[e,List.foldl_append,s1 l1 _ h1,List.foldl_cons]
 have st:BV cs outs ⟨[],[],λ_=>false⟩ m=⟨[m],[],λx=>x ==(m:Int)⟩:=by
  unfold BV
  rw[ho,ec,Option.bind_some,qH λx hx=>by
   have:=hn x hx
   have e:x=((x.toNat:Nat):Int):=by omega
   have:=low x.toNat (by omega)
   rw[<-e]at this
   rw[this,Bool.true_or]]
  rfl
 rw[st]
 obtain⟨l',h2,_⟩:=PN (cs:=cs) (outs:=outs) l2 ⟨[m],[],λx=>x ==(m:Int)⟩
 exact⟨l',h2⟩
end L2
namespace L2
abbrev DD(a:Ad):Addr:=a "Hold"
def CJ(c p m:Int):Int:=((c+p / 3) % p) * ((c+p / 3) % p) % p * ((c+p / 3) % p) % p % m
def G9(ns:List Int)(k:Nat):Int:=ns.getD k 0
def CO(K:W.Frag)(a:Ad):Sp:=λvs H Q _=>∃ c p m:Int,vs=[.int c,.int p,.int m]/\0<p/\p<=20000/\0<m/\Q (.int (CJ c p m)) H
theorem EV{K:W.Frag}{a:Ad}{c p m:Int}{H:Hp}{Q:VK}{E:XK}:CO K a [.int c,.int p,.int m] H Q E=(0<p/\p<=20000/\0<m/\Q (.int (CJ c p m)) H):=by simp[CO,and_assoc]
theorem D8{c p m:Int}(h:0<m):0<=CJ c p m:=Int.emod_nonneg _ (by omega)
theorem EM{c p m:Int}(h:0<m):CJ c p m<m:=Int.emod_lt_of_pos _ h
def HA(K:W.Frag)(a:Ad):Sp:=λvs H Q _=>∃ (s:Addr) (ns:List Int) (k:Nat),vs=[.ref s,.int k]/\SqL K H s (ns.map V.int)/\ns.length<=1000/\Q (.int (G9 ns k)) H
theorem qO{K:W.Frag}{a:Ad}{s:Addr}{k:Int}{H:Hp}{Q:VK}{E:XK}:HA K a [.ref s,.int k] H Q E=∃ (ns:List Int) (n:Nat),k=n/\SqL K H s (ns.map V.int)/\ns.length<=1000/\Q (.int (G9 ns n)) H:=by simp[HA,and_assoc]
abbrev TB(K:W.Frag)(a:Ad):Prop:=WQ K (DD a) (a "Change")
abbrev A1(a:Ad)(H:Hp)(A:BA)(w:Nat)(rows:List (List V))(n:Nat)(cs:List Ch)(outs:Int->Bool):Prop:=BookAt a (DD a) H A w rows n cs outs
def K1:Option Nat->V
 | none=>.non
 | some k=>.int k
def AX(n:Nat)(outs:Int->Bool):List Nat:=(List.range n).filter λ(k:Nat)=> !outs k
def BI(l:List Nat):List V:=l.map λ(k:Nat)=>V.int k
abbrev FZ(rows:List (List V))(w:Nat)(i j:Int):Prop:=0<=i/\i<rows.length/\0<=j/\j<w
def K2(K:W.Frag)(a:Ad):Sp:=λvs H Q _=>∃ x dx pl v nt,vs=[.ref x,.ref pl,v,.ref nt]/\TB K a/\H x=some (.ins (a "Change") dx [])/\Q .non (upd H x (.ins (a "Change") dx (DQ pl v nt)))
def FD(K:W.Frag)(a:Ad):Sp:=λvs H Q _=>∃ (b gp cl dx:Addr) (w:Nat) (rows:List (List V)) (n:Nat),vs=[.ref b,.ref gp]/\TB K a/\C7 K a/\PlankAt a H gp cl w rows n/\H b=some (.ins (DD a) dx []) ∧
 ∀ (m mi lt ou:Addr) (ls:List Addr) (H':Hp),H m=none->H mi=none->H lt=none->H ou=none->(∀ l∈ls,H l=none)->A1 a H' ⟨b,gp,m,mi,lt,ou,ls,cl⟩ w rows n [] (λ_=>false)->SameBut (· =b) H H'->Q .non H'
def K3(K:W.Frag)(a:Ad):Sp:=λvs H Q _=>∃ (nl:Addr) (ns:List Int) (o:Option Nat),vs=[.ref nl,K1 o]/\SqL K H nl (ns.map V.int)/\ns.length<=60 ∧
 ∀ (t:Addr) (ks:List Int) (H':Hp),Same H H'->H' t=some (.tup (ks.map V.int))->ks.Pairwise (· <·)->(∀ x,x∈ks↔x∈ns\/∃ k:Nat,o=some k/\x=k)->ks.length<=ns.length+1->Q (.ref t) H'
def K4(K:W.Frag)(a:Ad):Sp:=λvs H Q E=>∃ (A:BA) (w:Nat) (rows:List (List V)) (n:Nat) (cs:List Ch) (outs:Int->Bool) (pl:Addr) (i j:Int),vs=[.ref A.b,.ref pl]/\TB K a/\C7 K a/\A1 a H A w rows n cs outs/\H pl=some (.tup [.int i,.int j]) ∧
 (FZ rows w i j->Q .non H)/\(¬ FZ rows w i j->E (.ref (a "NoBlock")) none H)
def HB(K:W.Frag)(a:Ad):Sp:=λvs H Q E=>∃ (A:BA) (w:Nat) (rows:List (List V)) (n:Nat) (cs:List Ch) (outs:Int->Bool) (pl:Addr) (i j:Int),vs=[.ref A.b,.ref pl]/\TB K a/\C7 K a/\A1 a H A w rows n cs outs/\H pl=some (.tup [.int i,.int j]) ∧
 (FZ rows w i j->Q (K1 (D0 cs i j)) H)/\(¬ FZ rows w i j->E (.ref (a "NoBlock")) none H)
abbrev known(cs:List Ch)(x:Int):Prop:=0<=x/\x<cs.length
def HC(K:W.Frag)(a:Ad):Sp:=λvs H Q E=>∃ (A:BA) (w:Nat) (rows:List (List V)) (n:Nat) (cs:List Ch) (outs:Int->Bool) (nl:Addr) (ns:List Int),vs=[.ref A.b,.ref nl]/\TB K a/\A1 a H A w rows n cs outs/\SqL K H nl (ns.map V.int) ∧
 ((∀ x∈ns,known cs x)->Q .non H)/\((∃ x∈ns,¬ known cs x)->E (.ref (a "NoChange")) none H)
def EW(K:W.Frag)(a:Ad):Sp:=λvs H Q E=>∃ (A:BA) (w:Nat) (rows:List (List V)) (n:Nat) (cs:List Ch) (outs:Int->Bool) (pl nl:Addr) (v:V) (ns:List Int) (i j:Int),vs=[.ref A.b,.ref pl,v,.ref nl]/\TB K a/\C7 K a/\A1 a H A w rows n cs outs/\H pl=some (.tup [.int i,.int j])/\SqL K H nl (ns.map V.int)/\ns.length<=60/\cs.length<990 ∧
 (FZ rows w i j->(∀ x∈ns,known cs x)->∀ (nd:List Int) (H':Hp),nd.Pairwise (· <·)->(∀ x,x∈nd↔x∈ns\/∃ k:Nat,D0 cs i j=some k/\x=k)->A1 a H' A w rows n (cs++[⟨i.toNat,j.toNat,v,nd⟩]) outs->SameBut A.F H H'->Q (.int cs.length) H') ∧
 (¬ FZ rows w i j->E (.ref (a "NoBlock")) none H)/\(FZ rows w i j->(∃ x∈ns,¬ known cs x)->E (.ref (a "NoChange")) none H)
def C9(K:W.Frag)(a:Ad):Sp:=λvs H Q _=>∃ (A:BA) (w:Nat) (rows:List (List V)) (n:Nat) (cs:List Ch) (outs:Int->Bool),vs=[.ref A.b]/\TB K a/\A1 a H A w rows n cs outs ∧
 ∀ (l:Addr) (H':Hp),H l=none->Same H H'->H' l=some (.lst (BI (AX cs.length outs)))->Q (.ref l) H'
def PR:Option Int->V
 | none=>.non
 | some k=>.int k
abbrev BJ(kvs:List (AS × V))(x:Int):Bool:=(BC kvs (.inl x)).isSome
def K5(K:W.Frag)(a:Ad):Sp:=λvs H Q _=>∃ (A:BA) (w:Nat) (rows:List (List V)) (n:Nat) (cs:List Ch) (outs:Int->Bool) (k:Nat) (c:Ch) (g:Addr) (kvg:List (AS × V)),vs=[.ref A.b,.int k,.ref g]/\TB K a/\A1 a H A w rows n cs outs/\cs[k]? =some c/\H g=some (.dK kvg) ∧
 Q (PR (FC c.nd λx=>outs x || BJ kvg x)) H
def HD(K:W.Frag)(a:Ad):Sp:=λvs H Q _=>∃ (A:BA) (w:Nat) (rows:List (List V)) (n:Nat) (cs:List Ch) (outs:Int->Bool) (b:Nat) (tk:Addr) (kvt:List (AS × V)),vs=[.ref A.b,.int b,.ref tk]/\TB K a/\A1 a H A w rows n cs outs/\b<rows.length/\H tk=some (.dK kvt)/\kvt.length<=1000 ∧
 ∀ (t ol hl:Addr) (H':Hp),H ol=none->H hl=none->ol≠hl->Same H H'->ToldAt H' t ol hl (outcome cs outs (BJ kvt) b).out (outcome cs outs (BJ kvt) b).held->Q (.ref t) H'
def K6(K:W.Frag)(a:Ad):Sp:=λvs H Q _=>∃ (A:BA) (w:Nat) (rows:List (List V)) (n:Nat) (cs:List Ch) (outs:Int->Bool) (b:Nat) (vl:Addr) (row:List V),vs=[.ref A.b,.ref vl,.int b]/\TB K a/\A1 a H A w rows n cs outs/\b<rows.length/\H vl=some (.lst row)/\row.length=w ∧
 ∀ (l:Addr) (H':Hp),H l=none->Same H H'->H' l=some (.lst (FY cs outs b row))->Q (.ref l) H'
def FE(K:W.Frag)(a:Ad):Sp:=λvs H Q E=>∃ (A:BA) (w:Nat) (rows:List (List V)) (n:Nat) (cs:List Ch) (outs:Int->Bool) (b:Int),vs=[.ref A.b,.int b]/\TB K a/\C7 K a/\A1 a H A w rows n cs outs ∧
 (∀ (b':Nat) (row:List V) (t ol hl:Addr) (H':Hp),b=b'->rows[b']? =some row->H ol=none->H hl=none->ol≠hl->ToldAt H' t ol hl (outcome cs outs (λ_=>false) b').out (outcome cs outs (λ_=>false) b').held →
  A1 a H' A w (rows.set b' (FY cs (C3 cs outs b') b' row)) (n+1) cs (C3 cs outs b')->SameBut (λx=>A.F x\/x=A.gp) H H'->Q (.ref t) H') ∧
 (b<0\/rows.length<=b->E (.ref (a "NoBlock")) none H)
def K7(K:W.Frag)(a:Ad):Sp:=λvs H Q E=>∃ (A:BA) (w:Nat) (rows:List (List V)) (n:Nat) (cs:List Ch) (outs:Int->Bool) (x:Int),vs=[.ref A.b,.int x]/\TB K a/\A1 a H A w rows n cs outs ∧
 (∀ (k:Nat) (c:Ch) (l:Addr) (H':Hp),x=k->cs[k]? =some c->H l=none->Same H H'->H' l=some (.lst (c.nd.map V.int))->Q (.ref l) H')/\(¬ known cs x->∀ H',Same H H'->E (.ref (a "NoChange")) none H')
def K8(K:W.Frag)(a:Ad):Sp:=λvs H Q _=>∃ (A:BA) (w:Nat) (rows:List (List V)) (n:Nat) (cs:List Ch) (outs:Int->Bool) (k:Nat) (c:Ch),vs=[.ref A.b,.int k]/\TB K a/\A1 a H A w rows n cs outs/\cs[k]? =some c/\Q (.int c.blk) H
def HE(K:W.Frag)(a:Ad):Sp:=λvs H Q _=>∃ (A:BA) (w:Nat) (rows:List (List V)) (n:Nat) (cs:List Ch) (outs:Int->Bool),vs=[.ref A.b]/\TB K a/\C7 K a/\A1 a H A w rows n cs outs/\Q (.int rows.length) H
def BS(cs:List Ch)(outs:Int->Bool)(b:Nat):Nat:=(outcome cs outs (λ_=>false) b).out.length
def CB(f:Nat->Nat):Nat->Nat × Nat
 | 0=>(0,0)
 | m+1=>if(CB f m).2<f m then(m,f m)else CB f m
def DE(cs:List Ch)(outs:Int->Bool):Nat:=match AX cs.length outs with
 | []=>0
 | k::_=>match cs[k]? with
  | some c=>c.blk
  | none=>0
def DF(kind:Nat)(cs:List Ch)(outs:Int->Bool)(m t:Nat):Nat:=match kind with
 | 0=>DE cs outs
 | 1=>(CB (BS cs outs) m).1
 | _=>t % m
def CU(kind m:Nat)(cs:List Ch)(outs:Int->Bool)(t:Nat):Nat->Int->Bool
 | 0=>outs
 | i+1=>C3 cs (CU kind m cs outs t i) (DF kind cs (CU kind m cs outs t i) m (t+i))
def D9(kind m:Nat)(cs:List Ch)(outs:Int->Bool)(t i:Nat):Nat:=DF kind cs (CU kind m cs outs t i) m (t+i)
def CV(kind m:Nat)(cs:List Ch)(outs:Int->Bool)(t:Nat)(rows:List (List V)):Nat->List (List V)
 | 0=>rows
 | i+1=>(CV kind m cs outs t rows i).set (D9 kind m cs outs t i) (FY cs (CU kind m cs outs t (i+1)) (D9 kind m cs outs t i) ((CV kind m cs outs t rows i).getD (D9 kind m cs outs t i) []))
def DG(kind m:Nat)(cs:List Ch)(outs:Int->Bool)(t N:Nat):List Nat:=(List.range N).map (D9 kind m cs outs t)
def W1(kind m:Nat)(cs:List Ch)(outs:Int->Bool)(t N:Nat):Prop:=(∀ i,i<N->AX cs.length (CU kind m cs outs t i)≠[])/\AX cs.length (CU kind m cs outs t N)=[]
def BroomAt(a:Ad)(H:Hp)(x:Addr)(kind t:Nat):Prop:=match kind with
 | 0=>∃ dx,H x=some (.ins (a "Broom") dx [])
 | 1=>∃ dx,H x=some (.ins (a "Fullest") dx [])
 | _=>∃ dx,H x=some (.ins (a "Round") dx [("turns",.int t)])
def Kept(H H':Hp):Prop:=∀ x o,H x=some o->(∀ C dx fs,o=.ins C dx fs->2<=fs.length)->H' x=some o
structure TX(K:W.Frag)(a:Ad):Prop where
 cl:Cls K (a "Round")
 nT:NoAttr K (a "Round") "turns"
 ty0:∀ {H:Hp} {p dx:Addr} {fs:List (Str × V)},H p=some (.ins (a "Broom") dx fs)->DN K H (.ref p) (.ref (a "Broom"))
 ty1:∀ {H:Hp} {p dx:Addr} {fs:List (Str × V)},H p=some (.ins (a "Fullest") dx fs)->DN K H (.ref p) (.ref (a "Fullest"))
 ty2:∀ {H:Hp} {p dx:Addr} {fs:List (Str × V)},H p=some (.ins (a "Round") dx fs)->DN K H (.ref p) (.ref (a "Round"))
 k0:W.kitOne K (.ref (a "Broom")) (.ref (a "Broom"))=some true
 k1:W.kitOne K (.ref (a "Fullest")) (.ref (a "Broom"))=some true
 k2:W.kitOne K (.ref (a "Round")) (.ref (a "Broom"))=some true
abbrev D1(K:W.Frag)(a:Ad):Prop:=TB K a/\C7 K a/\TX K a
def GN(K:W.Frag)(a:Ad):Sp:=λvs H Q _=>∃ x dx,vs=[.ref x]/\TX K a/\H x=some (.ins (a "Round") dx [])/\Q .non (upd H x (.ins (a "Round") dx [("turns",.int 0)]))
def GO(K:W.Frag)(a:Ad):Sp:=λvs H Q _=>∃ (x:V) (A:BA) (w:Nat) (rows:List (List V)) (n:Nat) (cs:List Ch) (outs:Int->Bool),vs=[x,.ref A.b]/\TB K a/\A1 a H A w rows n cs outs/\AX cs.length outs≠[]/\∀ H',Same H H'->Q (.int (DE cs outs)) H'
def GP(K:W.Frag)(a:Ad):Sp:=λvs H Q _=>∃ (x:V) (A:BA) (w:Nat) (rows:List (List V)) (n:Nat) (cs:List Ch) (outs:Int->Bool),vs=[x,.ref A.b]/\TB K a/\C7 K a/\A1 a H A w rows n cs outs/\rows.length<=1000/\∀ H',Same H H'->Q (.int (CB (BS cs outs) rows.length).1) H'
def GQ(K:W.Frag)(a:Ad):Sp:=λvs H Q _=>∃ (x dx:Addr) (t:Nat) (A:BA) (w:Nat) (rows:List (List V)) (n:Nat) (cs:List Ch) (outs:Int->Bool),vs=[.ref x,.ref A.b]/\D1 K a/\A1 a H A w rows n cs outs/\1<=rows.length/\H x=some (.ins (a "Round") dx [("turns",.int t)])/\Q (.int (t % rows.length:Nat)) (upd H x (.ins (a "Round") dx [("turns",.int (t+1:Nat))]))
abbrev BA.W(A:BA)(x:Addr):Prop:=A.F x\/x=A.gp
def IN(K:W.Frag)(a:Ad):Sp:=λvs H Q _=>∃ (br:Addr) (kind t:Nat) (A:BA) (w:Nat) (rows:List (List V)) (n:Nat) (cs:List Ch) (outs:Int->Bool),vs=[.ref A.b,.ref br]/\D1 K a/\A1 a H A w rows n cs outs/\1<=rows.length/\rows.length<=10/\cs.length<=90/\BroomAt a H br kind t/\kind<=2 ∧
 ∀ (l:Addr) (N:Nat) (H':Hp),W1 kind rows.length cs outs t N->N<=cs.length * rows.length+rows.length->H l=none->H' l=some (.lst (BI (DG kind rows.length cs outs t N)))->A1 a H' A w (CV kind rows.length cs outs t rows N) (n+N) cs (CU kind rows.length cs outs t N)->BroomAt a H' br kind (t+N)->SameBut (λx=>A.W x\/x=br) H H'->Q (.ref l) H'
def W2(F:Addr->Prop)(H:Hp)(t:Addr)(c:Ch):Prop:=∃ (pl nl:Addr) (ns:List Int),H t=some (.tup [.ref pl,.ref nl])/\H pl=some (.tup [.int c.blk,.int c.cell])/\H nl=some (.lst (ns.map V.int))/\¬ F nl/\(∀ x,x∈ns↔x∈c.nd)/\ns.length<=10
def OwnL(F:Addr->Prop)(H:Hp)(L:Addr)(cs:List Ch):Prop:=∃ tl:List Addr,H L=some (.lst (tl.map V.ref))/\Paired (W2 F H) tl cs
def LastD(H:Hp)(la:Addr)(cs:List Ch):Prop:=∃ kvs,H la=some (.dT kvs)/\(∀ i j:Int,BC kvs [.inl i,.inl j]=(D0 cs i j).map λ(k:Nat)=>V.int k)/\kvs.length<=cs.length/\∀ p∈kvs,∃ i j:Int,p.1=[.inl i,.inl j]
def F0(rows:List (List V)):Prop:=∀ r∈rows,∀ v∈r,v=.non\/∃ i,v=.int i
def IP(cs:List Ch):Prop:=∀ c∈cs,∃ i,c.val=.int i
structure WS where
 A:BA
 A':BA
 L:Addr
 la:Addr
def WS.B(S:WS)(x:Addr):Prop:=S.A.W x\/S.A'.W x\/x=S.L\/x=S.la
structure WS.Ap(S:WS):Prop where
 h:(∀ x,S.A.W x->¬ S.A'.W x)
 l:¬ S.A.W S.L/\¬ S.A'.W S.L/\¬ S.A.W S.la/\¬ S.A'.W S.la/\S.L≠S.la
structure W25(a:Ad)(H:Hp)(S:WS)(w:Nat)(rows:List (List V))(n:Nat)(cs:List Ch)(outs:Int->Bool):Prop where
 b0:A1 a H S.A w rows n cs outs
 b1:A1 a H S.A' w rows n cs outs
 ow:OwnL S.B H S.L cs
 la:LastD H S.la cs
 fl:F0 rows
 vl:IP cs
 ap:S.Ap
 sz:1<=rows.length/\rows.length<=6/\1<=w/\w<=4
def K9(K:W.Frag)(a:Ad):Sp:=λvs H Q _=>∃ (hl z:Addr) (S:WS) (w:Nat) (rows:List (List V)) (n:Nat) (cs:List Ch) (outs:Int->Bool) (c:Int),vs=[.ref hl,.int c,.ref z,.ref S.L,.ref S.la]/\D1 K a/\W25 a H S w rows n cs outs/\cs.length<80/\H z=some (.tup [.int rows.length,.int w])/\H hl=some (.lst [.ref S.A.b,.ref S.A'.b])/\¬ S.B hl ∧
 ∀ (rows':List (List V)) (n':Nat) (cs':List Ch) (outs':Int->Bool) (H':Hp),W25 a H' S w rows' n' cs' outs'->rows'.length=rows.length->cs'.length<=cs.length+1->SameBut S.B H H'->Q (.bl true) H'
def LA(K:W.Frag)(a:Ad):Sp:=λvs H Q _=>∃ (L wl:Addr) (b:Nat) (cs:List Ch) (outs:Int->Bool) (F:Addr->Prop),vs=[.ref L,.ref wl,.int b]/\OwnL F H L cs/\H wl=some (.lst (BI (AX cs.length outs)))/\cs.length<=100/\(∀ (k:Nat) (c:Ch),cs[k]? =some c->∀ x∈c.nd,0<=x/\x<k)/\∀ H',Same H H'->Q (.int (BS cs outs b)) H'
def LB(K:W.Frag)(a:Ad):Sp:=λvs H Q _=>∃ (L wl:Addr) (m:Nat) (cs:List Ch) (outs:Int->Bool) (F:Addr->Prop),vs=[.ref L,.ref wl,.int m]/\OwnL F H L cs/\H wl=some (.lst (BI (AX cs.length outs)))/\cs.length<=100/\(∀ (k:Nat) (c:Ch),cs[k]? =some c->∀ x∈c.nd,0<=x/\x<k)/\1<=m/\m<=100/\∀ H',Same H H'->Q (.int (CB (BS cs outs) m).1) H'
def HF(K:W.Frag)(a:Ad):Sp:=λvs H Q _=>∃ (kind:Nat) (L wl:Addr) (m t:Nat) (cs:List Ch) (outs:Int->Bool) (F:Addr->Prop),vs=[.int kind,.ref L,.ref wl,.int m,.int t]/\OwnL F H L cs/\H wl=some (.lst (BI (AX cs.length outs)))/\cs.length<=100/\(∀ (k:Nat) (c:Ch),cs[k]? =some c->∀ x∈c.nd,0<=x/\x<k)/\1<=m/\m<=100/\AX cs.length outs≠[]/\kind<=2/\∀ H',Same H H'->Q (.int (DF kind cs outs m t)) H'
def EN(K:W.Frag)(a:Ad):Sp:=λvs H Q _=>∃ (br:Addr) (kind t:Nat) (A:BA) (w:Nat) (rows:List (List V)) (n:Nat) (cs:List Ch) (outs:Int->Bool),vs=[.ref br,.ref A.b,.int (DF kind cs outs rows.length t)]/\D1 K a/\A1 a H A w rows n cs outs/\BroomAt a H br kind t/\kind<=2/\1<=rows.length/\rows.length<=1000/\(kind=0->AX cs.length outs≠[])/\∀ H',BroomAt a H' br kind (t+1)->SameBut (· =br) H H'->A1 a H' A w rows n cs outs->Q (.bl true) H'
structure Four(a:Ad)(H:Hp)(b0 b1 b2 b3:Addr)(t0 t1:Nat):Prop where
 k0:BroomAt a H b0 0 0
 k1:BroomAt a H b1 1 0
 k2:BroomAt a H b2 2 t0
 k3:BroomAt a H b3 2 t1
 ne:b0≠b1/\b0≠b2/\b0≠b3/\b1≠b2/\b1≠b3/\b2≠b3
def LC(K:W.Frag)(a:Ad):Sp:=λvs H Q _=>∃ (bl z tu L b0 b1 b2 b3:Addr) (A:BA) (w:Nat) (rows:List (List V)) (n:Nat) (cs:List Ch) (outs:Int->Bool) (F:Addr->Prop) (t0 t1:Nat),vs=[.ref bl,.ref A.b,.ref L,.ref z,.ref tu]/\D1 K a/\A1 a H A w rows n cs outs/\OwnL F H L cs/\1<=rows.length/\rows.length<=6/\cs.length<=90/\H z=some (.tup [.int rows.length,.int w])/\H tu=some (.lst [.int t0,.int t1])/\t0<=100/\t1<=100/\H bl=some (.lst [.ref b0,.ref b1,.ref b2,.ref b3])/\Four a H b0 b1 b2 b3 0 0/\AX cs.length outs≠[] ∧
 ∀ H',Four a H' b0 b1 b2 b3 t0 t1->Kept H H'->Q (.bl true) H'
def LD(K:W.Frag)(a:Ad):Sp:=λvs H Q _=>∃ (tl L z:Addr) (kind t N:Nat) (A:BA) (w:Nat) (rows:List (List V)) (n:Nat) (cs:List Ch) (outs:Int->Bool) (F:Addr->Prop),vs=[.ref tl,.int kind,.ref A.b,.ref L,.ref z,.int t]/\D1 K a/\A1 a H A w rows n cs outs/\1<=rows.length/\rows.length<=10/\cs.length<=90/\OwnL F H L cs/\(∀ x,A.W x->F x)/\¬ A.W L/\¬ A.W tl/\H z=some (.tup [.int rows.length,.int w])/\kind<=2/\W1 kind rows.length cs outs t N/\N<=1000/\H tl=some (.lst (BI (DG kind rows.length cs outs t N))) ∧
 ∀ H',A1 a H' A w (CV kind rows.length cs outs t rows N) (n+N) cs (CU kind rows.length cs outs t N)->SameBut A.W H H'->Q (.bl true) H'
def LE(K:W.Frag)(a:Ad):Sp:=λvs H Q _=>∃ c:Int,vs=[.int c]/\D1 K a/\∀ H',Same H H'->Q (.bl true) H'
def LG(K:W.Frag)(a:Ad):Sp:=λvs H Q _=>∃ (A:BA) (L la:Addr) (w:Nat) (rows:List (List V)) (n:Nat) (cs:List Ch) (outs:Int->Bool) (F:Addr->Prop),vs=[.ref A.b,.ref L,.ref la]/\D1 K a/\A1 a H A w rows n cs outs/\OwnL F H L cs/\¬ A.F L/\¬ A.F la/\LastD H la cs/\cs.length<=90/\1<=rows.length/\1<=w ∧
 ∀ (c:Ch) (H':Hp),A1 a H' A w rows n (cs++[c]) outs->SameBut (λx=>A.F x\/x=la) H H'->Q (.bl true) H'
def PU(K:W.Frag)(a:Ad):Sp:=λvs H Q _=>∃ (s:Addr) (ns:List Int),vs=[.ref s]/\D1 K a/\SqL K H s (ns.map V.int)/\ns.length<=63/\∀ H',Q (.bl true) H'
end L2
namespace L2
abbrev FK:=W.Frag
abbrev XE:=St->XK
theorem AF{f g:TS}(h:f=g)(D:Ends)(σ:St)(H:Hp):f D σ H=g D σ H:=by rw[h]
section
variable{K:FK}{a:Ad}{n:Nat}{E E1:XE}{D:Ends}{σ:St}{H:Hp}
def W3(K:FK)(a:Ad)(E E1:XE):TS:=(DU K (AA 0) (tC (.int 0)) "turns")
theorem qP:type_of% (AF (W3.eq_1 K a E E1) D σ H):=rfl
def PX(K:FK)(a:Ad)(E:XE):TS:=(W3 K a E E)
def W4(K:FK)(a:Ad)(E E1:XE):TS:=(DU K (AA 0) (AA 1) "place")
theorem qQ:type_of% (AF (W4.eq_1 K a E E1) D σ H):=rfl
def W5(K:FK)(a:Ad)(E E1:XE):TS:=(DU K (AA 0) (AA 2) "value")
theorem qR:type_of% (AF (W5.eq_1 K a E E1) D σ H):=rfl
def W6(K:FK)(a:Ad)(E E1:XE):TS:=(DU K (AA 0) (AA 3) "needs")
theorem qS:type_of% (AF (W6.eq_1 K a E E1) D σ H):=rfl
def PY(K:FK)(a:Ad)(E:XE):TS:=(AJ (W4 K a E E) (AJ (W5 K a E E) (W6 K a E E)))
def W7(K:FK)(a:Ad)(E E1:XE):TS:=(AZ (E5 (DI (AC (BK (DC K) (AC (BG K (AA 0) "made") AE)) AE)) (AR 0) (tB (GY (AA 0) (BG K (AA 1) "outs"))) (AA 0) 1 [0]))
theorem qT:type_of% (AF (W7.eq_1 K a E E1) D σ H):=rfl
def PZ(K:FK)(a:Ad)(E:XE):TS:=(W7 K a E E)
def W8(K:FK)(a:Ad)(E E1:XE):TS:=(AZ (AI (AT K) (BG K (AI (AT K) (BG K (AA 0) "made") (AA 1)) "place") (tC (.int 0))))
theorem qU:type_of% (AF (W8.eq_1 K a E E1) D σ H):=rfl
def P0(K:FK)(a:Ad)(E:XE):TS:=(W8 K a E E)
def W9(K:FK)(a:Ad)(E E1:XE):TS:=(IF (a "NoChange") E (AC (tC (.str "there is no change of such a number")) AE))
theorem XA:type_of% (AF (W9.eq_1 K a E E1) D σ H):=rfl
def XB(K:FK)(a:Ad)(E E1:XE):TS:=(BN (C5 (CF (IA GI E6 (tC (.int 0)) (AA 2) (BK (DC K) (AC (BG K (AA 0) "made") AE))))) (W9 K a E E) BP)
theorem XC:type_of% (AF (XB.eq_1 K a E E1) D σ H):=rfl
def XD(K:FK)(a:Ad)(E E1:XE):TS:=(CD (DP K (AA 1)) (AR 2) (XB K a E E))
theorem XF:type_of% (AF (XD.eq_1 K a E E1) D σ H):=rfl
def P4(K:FK)(a:Ad)(E:XE):TS:=(XD K a E E)
def XG(K:FK)(a:Ad)(E E1:XE):TS:=(AZ (BK (II K) (AC (KU K (AA 0)) AE)))
theorem XH:type_of% (AF (XG.eq_1 K a E E1) D σ H):=rfl
def XI(K:FK)(a:Ad)(E E1:XE):TS:=(BN (CF (AI MQ (AA 1) (tC .non))) (XG K a E E) BP)
theorem XJ:type_of% (AF (XI.eq_1 K a E E1) D σ H):=rfl
def XL(K:FK)(a:Ad)(E E1:XE):TS:=(AZ (BK (II K) (AC (KU K (AI (C2 K) (BK (FQ K) (AC (AA 0) AE)) (CG (AC (AA 1) AE)))) AE)))
theorem XM:type_of% (AF (XL.eq_1 K a E E1) D σ H):=rfl
def NA(K:FK)(a:Ad)(E:XE):TS:=(AJ (XI K a E E) (XL K a E E))
def XN(K:FK)(a:Ad)(E E1:XE):TS:=(AZ (AA 3))
theorem P5:type_of% (AF (XN.eq_1 K a E E1) D σ H):=rfl
def XO(K:FK)(a:Ad)(E E1:XE):TS:=(BN (HW (tB (GY (AA 3) (BG K (AA 0) "outs"))) (tB (GY (AA 3) (AA 2)))) (XN K a E E) BP)
theorem P7:type_of% (AF (XO.eq_1 K a E E1) D σ H):=rfl
def XQ(K:FK)(a:Ad)(E E1:XE):TS:=(CD (DP K (BG K (AI (AT K) (BG K (AA 0) "made") (AA 1)) "needs")) (AR 3) (XO K a E E))
theorem P8:type_of% (AF (XQ.eq_1 K a E E1) D σ H):=rfl
def XR(K:FK)(a:Ad)(E E1:XE):TS:=(AZ (tC .non))
theorem P9:type_of% (AF (XR.eq_1 K a E E1) D σ H):=rfl
def QD(K:FK)(a:Ad)(E:XE):TS:=(AJ (XQ K a E E) (XR K a E E))
def XS(K:FK)(a:Ad)(E E1:XE):TS:=(A4 (BK (FQ K) (AC (AA 1) AE)) (AR 3))
theorem QE:type_of% (AF (XS.eq_1 K a E E1) D σ H):=rfl
def XT(K:FK)(a:Ad)(E E1:XE):TS:=(A4 (BG K (AI (AT K) (BG K (AA 0) "made") (AA 4)) "value") (LV (AA 3) (AI (AT K) (BG K (AI (AT K) (BG K (AA 0) "made") (AA 4)) "place") (tC (.int 1))) OP))
theorem QF:type_of% (AF (XT.eq_1 K a E E1) D σ H):=rfl
def XU(K:FK)(a:Ad)(E E1:XE):TS:=(BN (tB (KJ (AA 4) (BG K (AA 0) "outs"))) (XT K a E E) BP)
theorem QH:type_of% (AF (XU.eq_1 K a E E1) D σ H):=rfl
def XV(K:FK)(a:Ad)(E E1:XE):TS:=(CD (DP K (AI (AT K) (BG K (AA 0) "made_in") (AA 2))) (AR 4) (XU K a E E))
theorem QI:type_of% (AF (XV.eq_1 K a E E1) D σ H):=rfl
def XW(K:FK)(a:Ad)(E E1:XE):TS:=(AZ (AA 3))
theorem QJ:type_of% (AF (XW.eq_1 K a E E1) D σ H):=rfl
def QK(K:FK)(a:Ad)(E:XE):TS:=(AJ (XS K a E E) (AJ (XV K a E E) (XW K a E E)))
def XX(K:FK)(a:Ad)(E E1:XE):TS:=(DU K (AA 0) (E5 (DI (AC (AA 1) AE)) (AR 0) G0 (AI (ES K) (EZ (AC (tC .non) AE)) (AA 1)) 1 [2]) "contents")
theorem qV:type_of% (AF (XX.eq_1 K a E E1) D σ H):=rfl
def XY(K:FK)(a:Ad)(E E1:XE):TS:=(DU K (AA 0) (AA 2) "width")
theorem qW:type_of% (AF (XY.eq_1 K a E E1) D σ H):=rfl
def XZ(K:FK)(a:Ad)(E E1:XE):TS:=(DU K (AA 0) (tC (.int 0)) "written")
theorem qX:type_of% (AF (XZ.eq_1 K a E E1) D σ H):=rfl
def QL(K:FK)(a:Ad)(E:XE):TS:=(AJ (XX K a E E) (AJ (XY K a E E) (XZ K a E E)))
def X0(K:FK)(a:Ad)(E E1:XE):TS:=(AZ (BK (DC K) (AC (BG K (AA 0) "contents") AE)))
theorem qY:type_of% (AF (X0.eq_1 K a E E1) D σ H):=rfl
def QM(K:FK)(a:Ad)(E:XE):TS:=(X0 K a E E)
def X1(K:FK)(a:Ad)(E E1:XE):TS:=(AZ (BG K (AA 0) "width"))
theorem qZ:type_of% (AF (X1.eq_1 K a E E1) D σ H):=rfl
def QN(K:FK)(a:Ad)(E:XE):TS:=(X1 K a E E)
def X2(K:FK)(a:Ad)(E E1:XE):TS:=(AZ (BG K (AA 0) "written"))
theorem rC:type_of% (AF (X2.eq_1 K a E E1) D σ H):=rfl
def QP(K:FK)(a:Ad)(E:XE):TS:=(X2 K a E E)
def X3(K:FK)(a:Ad)(E E1:XE):TS:=(IF (a "NoBlock") E (AC (tC (.str "there is no such block")) AE))
theorem rD:type_of% (AF (X3.eq_1 K a E E1) D σ H):=rfl
def X4(K:FK)(a:Ad)(E E1:XE):TS:=(BN (C5 (CF (IA GI E6 (tC (.int 0)) (AA 1) (BK (DC K) (AC (BG K (AA 0) "contents") AE))))) (X3 K a E E) BP)
theorem rE:type_of% (AF (X4.eq_1 K a E E1) D σ H):=rfl
def QQ(K:FK)(a:Ad)(E:XE):TS:=(X4 K a E E)
def X5(K:FK)(a:Ad)(E E1:XE):TS:=(AZ (AI (AT K) (AA 0) (AA 1)))
theorem rF:type_of% (AF (X5.eq_1 K a E E1) D σ H):=rfl
def X6(K:FK)(a:Ad)(E E1:XE):TS:=(BN (CF (AI E6 (AA 1) (BK (DC K) (AC (AA 0) AE)))) (X5 K a E E) BP)
theorem rG:type_of% (AF (X6.eq_1 K a E E1) D σ H):=rfl
def X7(K:FK)(a:Ad)(E E1:XE):TS:=(AZ (tC (.int 0)))
theorem rH:type_of% (AF (X7.eq_1 K a E E1) D σ H):=rfl
def QR(K:FK)(a:Ad)(E:XE):TS:=(AJ (X6 K a E E) (X7 K a E E))
def X8(K:FK)(a:Ad)(E E1:XE):TS:=(A4 (AI D7 (AI (C2 K) (AA 0) (AI VI (AA 1) (tC (.int 3)))) (AA 1)) (AR 3))
theorem rJ:type_of% (AF (X8.eq_1 K a E E1) D σ H):=rfl
def X9(K:FK)(a:Ad)(E E1:XE):TS:=(AZ (AI D7 (AI D7 (AI (ES K) (AI D7 (AI (ES K) (AA 3) (AA 3)) (AA 1)) (AA 3)) (AA 1)) (AA 2)))
theorem rK:type_of% (AF (X9.eq_1 K a E E1) D σ H):=rfl
def QS(K:FK)(a:Ad)(E:XE):TS:=(AJ (X8 K a E E) (X9 K a E E))
def YA(K:FK)(a:Ad)(E E1:XE):TS:=(A4 IE (AR 3))
theorem rM:type_of% (AF (YA.eq_1 K a E E1) D σ H):=rfl
def YB(K:FK)(a:Ad)(E E1:XE):TS:=(GZ (AA 3) (AA 4) (tC (.bl true)))
theorem rN:type_of% (AF (YB.eq_1 K a E E1) D σ H):=rfl
def YC(K:FK)(a:Ad)(E E1:XE):TS:=(CD (DP K (AA 1)) (AR 4) (YB K a E E))
theorem rO:type_of% (AF (YC.eq_1 K a E E1) D σ H):=rfl
def YD(K:FK)(a:Ad)(E E1:XE):TS:=(A4 (tC (.int 0)) (AR 5))
theorem rP:type_of% (AF (YD.eq_1 K a E E1) D σ H):=rfl
def YE(K:FK)(a:Ad)(E E1:XE):TS:=(CY (OH (AA 3) (AA 4)))
theorem rQ:type_of% (AF (YE.eq_1 K a E E1) D σ H):=rfl
def rR(K:FK)(a:Ad)(E E1:XE):TS:=(A4 (AI (C2 K) (AA 5) (tC (.int 1))) (AR 5))
def YF(K:FK)(a:Ad)(E E1:XE):TS:=(BN (HW (CF (AI (BZ K) (AI (AT K) (AI (AT K) (AI (AT K) (AA 0) (AA 4)) (tC (.int 0))) (tC (.int 0))) (AA 2))) (CF (AI (BZ K) (E5 (DP K (AI (AT K) (AI (AT K) (AA 0) (AA 4)) (tC (.int 1)))) (AR 0) (tB (KJ (AA 0) (AA 1))) (AA 0) 1 [3]) (CG AE)))) (AJ (YE K a E E) (rR K a E E)) BP)
theorem rS:type_of% (AF (YF.eq_1 K a E E1) D σ H):=rfl
def YG(K:FK)(a:Ad)(E E1:XE):TS:=(CD (DP K (AA 1)) (AR 4) (YF K a E E))
theorem rT:type_of% (AF (YG.eq_1 K a E E1) D σ H):=rfl
def YH(K:FK)(a:Ad)(E E1:XE):TS:=(AZ (AA 5))
theorem rV:type_of% (AF (YH.eq_1 K a E E1) D σ H):=rfl
def QT(K:FK)(a:Ad)(E:XE):TS:=(AJ (YA K a E E) (AJ (YC K a E E) (AJ (YD K a E E) (AJ (YG K a E E) (YH K a E E)))))
def YI(K:FK)(a:Ad)(E E1:XE):TS:=(AZ (A5 (a "Hold") "block_of" (K8 K a) [] E (AA 1) (AC (AI (AT K) (A5 (a "Hold") "waiting" (C9 K a) [] E (AA 1) AE) (tC (.int 0))) AE)))
theorem rW:type_of% (AF (YI.eq_1 K a E E1) D σ H):=rfl
def QU(K:FK)(a:Ad)(E:XE):TS:=(YI K a E E)
def YJ(K:FK)(a:Ad)(E E1:XE):TS:=(DU K (AA 0) (AA 1) "ground")
theorem rX:type_of% (AF (YJ.eq_1 K a E E1) D σ H):=rfl
def YK(K:FK)(a:Ad)(E E1:XE):TS:=(DU K (AA 0) (CG AE) "made")
theorem rY:type_of% (AF (YK.eq_1 K a E E1) D σ H):=rfl
def YL(K:FK)(a:Ad)(E E1:XE):TS:=(DU K (AA 0) (E5 (DI (AC (A5 (a "Plank") "blocks" (FU K a) [] E (AA 1) AE) AE)) (AR 0) G0 (CG AE) 1 []) "made_in")
theorem rZ:type_of% (AF (YL.eq_1 K a E E1) D σ H):=rfl
def YM(K:FK)(a:Ad)(E E1:XE):TS:=(DU K (AA 0) MI "latest")
theorem r8:type_of% (AF (YM.eq_1 K a E E1) D σ H):=rfl
def YN(K:FK)(a:Ad)(E E1:XE):TS:=(DU K (AA 0) IE "outs")
theorem sB:type_of% (AF (YN.eq_1 K a E E1) D σ H):=rfl
def QV(K:FK)(a:Ad)(E:XE):TS:=(AJ (YJ K a E E) (AJ (YK K a E E) (AJ (YL K a E E) (AJ (YM K a E E) (YN K a E E)))))
def YO(K:FK)(a:Ad)(E E1:XE):TS:=(CY (A5 (a "Hold") "ask_for_changes" (HC K a) [] E (AA 0) (AC (CG (AC (AA 1) AE)) AE)))
theorem sC:type_of% (AF (YO.eq_1 K a E E1) D σ H):=rfl
def YQ(K:FK)(a:Ad)(E E1:XE):TS:=(AZ (BK (FQ K) (AC (BG K (AI (AT K) (BG K (AA 0) "made") (AA 1)) "needs") AE)))
theorem sD:type_of% (AF (YQ.eq_1 K a E E1) D σ H):=rfl
def QW(K:FK)(a:Ad)(E:XE):TS:=(AJ (YO K a E E) (YQ K a E E))
def YR(K:FK)(a:Ad)(E E1:XE):TS:=(AZ (A5 (a "Plank") "blocks" (FU K a) [] E (BG K (AA 0) "ground") AE))
theorem sE:type_of% (AF (YR.eq_1 K a E E1) D σ H):=rfl
def QX(K:FK)(a:Ad)(E:XE):TS:=(YR K a E E)
def YS(K:FK)(a:Ad)(E E1:XE):TS:=(IF (a "NoBlock") E (AC (tC (.str "there is no such place on the plank")) AE))
theorem sF:type_of% (AF (YS.eq_1 K a E E1) D σ H):=rfl
def YT(K:FK)(a:Ad)(E E1:XE):TS:=(BN (GA (C5 (CF (IA GI E6 (tC (.int 0)) (AI (AT K) (AA 1) (tC (.int 0))) (A5 (a "Plank") "blocks" (FU K a) [] E (BG K (AA 0) "ground") AE)))) (C5 (CF (IA GI E6 (tC (.int 0)) (AI (AT K) (AA 1) (tC (.int 1))) (A5 (a "Plank") "cells" (KW K a) [] E (BG K (AA 0) "ground") AE))))) (YS K a E E) BP)
theorem sG:type_of% (AF (YT.eq_1 K a E E1) D σ H):=rfl
def QY(K:FK)(a:Ad)(E:XE):TS:=(YT K a E E)
def YU(K:FK)(a:Ad)(E E1:XE):TS:=(A4 (BK (MX K) (AC (AA 2) AE)) (AR 3))
theorem QZ:type_of% (AF (YU.eq_1 K a E E1) D σ H):=rfl
def YV(K:FK)(a:Ad)(E E1:XE):TS:=(A4 (CG AE) (AR 4))
theorem Q0:type_of% (AF (YV.eq_1 K a E E1) D σ H):=rfl
def YW(K:FK)(a:Ad)(E E1:XE):TS:=(A4 (CG AE) (AR 5))
theorem Q1:type_of% (AF (YW.eq_1 K a E E1) D σ H):=rfl
def YX(K:FK)(a:Ad)(E E1:XE):TS:=(A4 (A5 (a "Hold") "lack_of" (K5 K a) [] E (AA 0) (AC (AA 6) (AC (AA 3) AE))) (AR 7))
theorem Q2:type_of% (AF (YX.eq_1 K a E E1) D σ H):=rfl
def YY(K:FK)(a:Ad)(E E1:XE):TS:=(GZ (AA 3) (AA 6) (tC (.bl true)))
theorem Q3:type_of% (AF (YY.eq_1 K a E E1) D σ H):=rfl
def YZ(K:FK)(a:Ad)(E E1:XE):TS:=(CY (EQ K "list" GJ (AA 4) (AC (AA 6) AE)))
theorem Q4:type_of% (AF (YZ.eq_1 K a E E1) D σ H):=rfl
def Y0(K:FK)(a:Ad)(E E1:XE):TS:=(CY (EQ K "list" GJ (AA 5) (AC (EZ (AC (AA 6) (AC (AA 7) AE))) AE)))
theorem Q5:type_of% (AF (Y0.eq_1 K a E E1) D σ H):=rfl
def Y1(K:FK)(a:Ad)(E E1:XE):TS:=(BN (CF (AI MQ (AA 7) (tC .non))) (AJ (YY K a E E) (YZ K a E E)) (Y0 K a E E))
theorem Q6:type_of% (AF (Y1.eq_1 K a E E1) D σ H):=rfl
def Y2(K:FK)(a:Ad)(E E1:XE):TS:=(BN (HW (tB (GY (AA 6) (BG K (AA 0) "outs"))) (tB (GY (AA 6) (AA 3)))) (AJ (YX K a E E) (Y1 K a E E)) BP)
theorem Q7:type_of% (AF (Y2.eq_1 K a E E1) D σ H):=rfl
def Y3(K:FK)(a:Ad)(E E1:XE):TS:=(CD (DP K (AI (AT K) (BG K (AA 0) "made_in") (AA 1))) (AR 6) (Y2 K a E E))
theorem Q8:type_of% (AF (Y3.eq_1 K a E E1) D σ H):=rfl
def Y4(K:FK)(a:Ad)(E E1:XE):TS:=(AZ (EZ (AC (AA 4) (AC (AA 5) AE))))
theorem Q9:type_of% (AF (Y4.eq_1 K a E E1) D σ H):=rfl
def RA(K:FK)(a:Ad)(E:XE):TS:=(AJ (YU K a E E) (AJ (YV K a E E) (AJ (YW K a E E) (AJ (Y3 K a E E) (Y4 K a E E)))))
def Y5(K:FK)(a:Ad)(E E1:XE):TS:=(CY (A5 (a "Plank") "ask_for_block" (FV K a) [] E (AA 0) (AC (AA 1) AE)))
theorem sI:type_of% (AF (Y5.eq_1 K a E E1) D σ H):=rfl
def Y6(K:FK)(a:Ad)(E E1:XE):TS:=(AZ (BK (FQ K) (AC (AI (AT K) (BG K (AA 0) "contents") (AA 1)) AE)))
theorem sJ:type_of% (AF (Y6.eq_1 K a E E1) D σ H):=rfl
def RB(K:FK)(a:Ad)(E:XE):TS:=(AJ (Y5 K a E E) (Y6 K a E E))
def Y7(K:FK)(a:Ad)(E E1:XE):TS:=(CY (A5 (a "Plank") "ask_for_block" (FV K a) [] E (AA 0) (AC (AA 1) AE)))
theorem sK:type_of% (AF (Y7.eq_1 K a E E1) D σ H):=rfl
def Y8(K:FK)(a:Ad)(E E1:XE):TS:=(IF (a "NoBlock") E (AC (tC (.str "the list is not as long as a block")) AE))
theorem sL:type_of% (AF (Y8.eq_1 K a E E1) D σ H):=rfl
def Y9(K:FK)(a:Ad)(E E1:XE):TS:=(BN (CF (AI (BQ K) (BK (DC K) (AC (AA 2) AE)) (BG K (AA 0) "width"))) (Y8 K a E E) BP)
theorem sM:type_of% (AF (Y9.eq_1 K a E E1) D σ H):=rfl
def ZA(K:FK)(a:Ad)(E E1:XE):TS:=(A4 (BK (II K) (AC (AA 2) AE)) (LV (BG K (AA 0) "contents") (AA 1) OP))
theorem sN:type_of% (AF (ZA.eq_1 K a E E1) D σ H):=rfl
def ZB(K:FK)(a:Ad)(E E1:XE):TS:=(ME K (AA 0) (tC (.int 1)) KH "written")
theorem sO:type_of% (AF (ZB.eq_1 K a E E1) D σ H):=rfl
def RC(K:FK)(a:Ad)(E:XE):TS:=(AJ (Y7 K a E E) (AJ (Y9 K a E E) (AJ (ZA K a E E) (ZB K a E E))))
def ZC(K:FK)(a:Ad)(E E1:XE):TS:=(A4 (E5 (DI (AC (AA 2) AE)) (AR 0) G0 (BO (LA K a) [] (λ_=>E0) (AC (AA 1) (AC (AA 2) (AC (AA 0) AE)))) 1 [0,1]) (AR 3))
theorem sP:type_of% (AF (ZC.eq_1 K a E E1) D σ H):=rfl
def ZD(K:FK)(a:Ad)(E E1:XE):TS:=(AZ (EQ K "list" (WG K) (AA 3) (AC (BK (O7 K) (AC (AA 3) AE)) AE)))
theorem sQ:type_of% (AF (ZD.eq_1 K a E E1) D σ H):=rfl
def RD(K:FK)(a:Ad)(E:XE):TS:=(AJ (ZC K a E E) (ZD K a E E))
def ZE(K:FK)(a:Ad)(E E1:XE):TS:=(A4 (tC (.int 0)) (AR 2))
theorem RE:type_of% (AF (ZE.eq_1 K a E E1) D σ H):=rfl
def ZF(K:FK)(a:Ad)(E E1:XE):TS:=(A4 (tC (.int 0)) (AR 3))
theorem RF:type_of% (AF (ZF.eq_1 K a E E1) D σ H):=rfl
def ZG(K:FK)(a:Ad)(E E1:XE):TS:=(A4 (BK (DC K) (AC (AI (AT K) (A5 (a "Hold") "outcome" (HD K a) [] E (AA 1) (AC (AA 4) (AC IE AE))) (tC (.int 0))) AE)) (AR 5))
theorem RG:type_of% (AF (ZG.eq_1 K a E E1) D σ H):=rfl
def ZH(K:FK)(a:Ad)(E E1:XE):TS:=(A4 (AA 4) (AR 2))
theorem RH:type_of% (AF (ZH.eq_1 K a E E1) D σ H):=rfl
def ZI(K:FK)(a:Ad)(E E1:XE):TS:=(A4 (AA 5) (AR 3))
theorem RI:type_of% (AF (ZI.eq_1 K a E E1) D σ H):=rfl
def ZJ(K:FK)(a:Ad)(E E1:XE):TS:=(BN (CF (AI MO (AA 5) (AA 3))) (AJ (ZH K a E E) (ZI K a E E)) BP)
theorem RJ:type_of% (AF (ZJ.eq_1 K a E E1) D σ H):=rfl
def ZK(K:FK)(a:Ad)(E E1:XE):TS:=(CD (DI (AC (A5 (a "Hold") "blocks" (HE K a) [] E (AA 1) AE) AE)) (AR 4) (AJ (ZG K a E E) (ZJ K a E E)))
theorem RK:type_of% (AF (ZK.eq_1 K a E E1) D σ H):=rfl
def ZL(K:FK)(a:Ad)(E E1:XE):TS:=(AZ (AA 2))
theorem RL:type_of% (AF (ZL.eq_1 K a E E1) D σ H):=rfl
def RM(K:FK)(a:Ad)(E:XE):TS:=(AJ (ZE K a E E) (AJ (ZF K a E E) (AJ (ZK K a E E) (ZL K a E E))))
def ZM(K:FK)(a:Ad)(E E1:XE):TS:=(A4 (AI D7 (BG K (AA 0) "turns") (A5 (a "Hold") "blocks" (HE K a) [] E (AA 1) AE)) (AR 2))
theorem sR:type_of% (AF (ZM.eq_1 K a E E1) D σ H):=rfl
def ZN(K:FK)(a:Ad)(E E1:XE):TS:=(ME K (AA 0) (tC (.int 1)) KH "turns")
theorem sS:type_of% (AF (ZN.eq_1 K a E E1) D σ H):=rfl
def ZO(K:FK)(a:Ad)(E E1:XE):TS:=(AZ (AA 2))
theorem sT:type_of% (AF (ZO.eq_1 K a E E1) D σ H):=rfl
def RN(K:FK)(a:Ad)(E:XE):TS:=(AJ (ZM K a E E) (AJ (ZN K a E E) (ZO K a E E)))
def ZP(K:FK)(a:Ad)(E E1:XE):TS:=(CY (A5 (a "Hold") "ask_for_place" (K4 K a) [] E (AA 0) (AC (AA 1) AE)))
theorem sU:type_of% (AF (ZP.eq_1 K a E E1) D σ H):=rfl
def ZQ(K:FK)(a:Ad)(E E1:XE):TS:=(AZ (OG (BG K (AA 0) "latest") (AA 1)))
theorem sV:type_of% (AF (ZQ.eq_1 K a E E1) D σ H):=rfl
def RO(K:FK)(a:Ad)(E:XE):TS:=(AJ (ZP K a E E) (ZQ K a E E))
def ZR(K:FK)(a:Ad)(E E1:XE):TS:=(A4 (A5 (a "Plank") "read" (GL K a) [] E (BG K (AA 0) "ground") (AC (AA 1) AE)) (AR 2))
theorem NB:type_of% (AF (ZR.eq_1 K a E E1) D σ H):=rfl
def ZS(K:FK)(a:Ad)(E E1:XE):TS:=(A4 (A5 (a "Hold") "outcome" (HD K a) [] E (AA 0) (AC (AA 1) (AC IE AE))) (AR 3))
theorem NC:type_of% (AF (ZS.eq_1 K a E E1) D σ H):=rfl
def ZT(K:FK)(a:Ad)(E E1:XE):TS:=(GZ (BG K (AA 0) "outs") (AA 4) (tC (.bl true)))
theorem ND:type_of% (AF (ZT.eq_1 K a E E1) D σ H):=rfl
def ZU(K:FK)(a:Ad)(E E1:XE):TS:=(CD (DP K (AI (AT K) (AA 3) (tC (.int 0)))) (AR 4) (ZT K a E E))
theorem NE:type_of% (AF (ZU.eq_1 K a E E1) D σ H):=rfl
def ZV(K:FK)(a:Ad)(E E1:XE):TS:=(CY (A5 (a "Plank") "write" (KY K a) [] E (BG K (AA 0) "ground") (AC (AA 1) (AC (A5 (a "Hold") "laid_over" (K6 K a) [] E (AA 0) (AC (AA 2) (AC (AA 1) AE))) AE))))
theorem NF:type_of% (AF (ZV.eq_1 K a E E1) D σ H):=rfl
def ZW(K:FK)(a:Ad)(E E1:XE):TS:=(AZ (AA 3))
theorem NG:type_of% (AF (ZW.eq_1 K a E E1) D σ H):=rfl
def RP(K:FK)(a:Ad)(E:XE):TS:=(AJ (ZR K a E E) (AJ (ZS K a E E) (AJ (ZU K a E E) (AJ (ZV K a E E) (ZW K a E E)))))
def ZX(K:FK)(a:Ad)(E E1:XE):TS:=(AZ (AI (AT K) (AI (AT K) (AI (AT K) (AA 1) (AI (AT K) (AA 2) (tC (.int 0)))) (tC (.int 0))) (tC (.int 0))))
theorem sW:type_of% (AF (ZX.eq_1 K a E E1) D σ H):=rfl
def ZY(K:FK)(a:Ad)(E E1:XE):TS:=(BN (CF (AI (BZ K) (AA 0) (tC (.int 0)))) (ZX K a E E) BP)
theorem sX:type_of% (AF (ZY.eq_1 K a E E1) D σ H):=rfl
def ZZ(K:FK)(a:Ad)(E E1:XE):TS:=(AZ (BO (LB K a) [] E (AC (AA 1) (AC (AA 2) (AC (AA 3) AE)))))
theorem sY:type_of% (AF (ZZ.eq_1 K a E E1) D σ H):=rfl
def Z0(K:FK)(a:Ad)(E E1:XE):TS:=(BN (CF (AI (BZ K) (AA 0) (tC (.int 1)))) (ZZ K a E E) BP)
theorem sZ:type_of% (AF (Z0.eq_1 K a E E1) D σ H):=rfl
def Z1(K:FK)(a:Ad)(E E1:XE):TS:=(AZ (AI D7 (AA 4) (AA 3)))
theorem tD:type_of% (AF (Z1.eq_1 K a E E1) D σ H):=rfl
def RQ(K:FK)(a:Ad)(E:XE):TS:=(AJ (ZY K a E E) (AJ (Z0 K a E E) (Z1 K a E E)))
def Z2(K:FK)(a:Ad)(E E1:XE):TS:=(A4 (CG AE) (AR 2))
theorem tE:type_of% (AF (Z2.eq_1 K a E E1) D σ H):=rfl
def Z3(K:FK)(a:Ad)(E E1:XE):TS:=(A4 (IL (A5 (a "Broom") "chosen" (GO K a) [] E (AA 1) (AC (AA 0) AE)) (IL (A5 (a "Fullest") "chosen" (GP K a) [] E (AA 1) (AC (AA 0) AE)) (A5 (a "Round") "chosen" (GQ K a) [] E (AA 1) (AC (AA 0) AE)))) (AR 3))
theorem tF:type_of% (AF (Z3.eq_1 K a E E1) D σ H):=rfl
def Z4(K:FK)(a:Ad)(E E1:XE):TS:=(CY (A5 (a "Hold") "write" (FE K a) [] E (AA 0) (AC (AA 3) AE)))
theorem tG:type_of% (AF (Z4.eq_1 K a E E1) D σ H):=rfl
def Z5(K:FK)(a:Ad)(E E1:XE):TS:=(CY (EQ K "list" GJ (AA 2) (AC (AA 3) AE)))
theorem tH:type_of% (AF (Z5.eq_1 K a E E1) D σ H):=rfl
def Z6(K:FK)(a:Ad)(E E1:XE):TS:=(TK (DO K (A5 (a "Hold") "waiting" (C9 K a) [] E (AA 0) AE)) (AJ (Z3 K a E E) (AJ (Z4 K a E E) (Z5 K a E E))))
theorem tI:type_of% (AF (Z6.eq_1 K a E E1) D σ H):=rfl
def Z7(K:FK)(a:Ad)(E E1:XE):TS:=(AZ (AA 2))
theorem tJ:type_of% (AF (Z7.eq_1 K a E E1) D σ H):=rfl
def RR(K:FK)(a:Ad)(E:XE):TS:=(AJ (Z2 K a E E) (AJ (Z6 K a E E) (Z7 K a E E)))
def Z8(K:FK)(a:Ad)(E E1:XE):TS:=(A4 (A5 (a "Hold") "newest" (HB K a) [] E (AA 0) (AC (AA 1) AE)) (AR 4))
theorem tK:type_of% (AF (Z8.eq_1 K a E E1) D σ H):=rfl
def Z9(K:FK)(a:Ad)(E E1:XE):TS:=(CY (A5 (a "Hold") "ask_for_changes" (HC K a) [] E (AA 0) (AC (AA 3) AE)))
theorem tM:type_of% (AF (Z9.eq_1 K a E E1) D σ H):=rfl
def aA(K:FK)(a:Ad)(E E1:XE):TS:=(A4 (BK (DC K) (AC (BG K (AA 0) "made") AE)) (AR 5))
theorem tN:type_of% (AF (aA.eq_1 K a E E1) D σ H):=rfl
def aB(K:FK)(a:Ad)(E E1:XE):TS:=(CY (EQ K "list" GJ (BG K (AA 0) "made") (AC (DA (a "Change") (K2 K a) [] E (AC (AA 1) (AC (AA 2) (AC (BO (K3 K a) [] E (AC (AA 3) (AC (AA 4) AE))) AE)))) AE)))
theorem tO:type_of% (AF (aB.eq_1 K a E E1) D σ H):=rfl
def aC(K:FK)(a:Ad)(E E1:XE):TS:=(CY (EQ K "list" GJ (AI (AT K) (BG K (AA 0) "made_in") (AI (AT K) (AA 1) (tC (.int 0)))) (AC (AA 5) AE)))
theorem tP:type_of% (AF (aC.eq_1 K a E E1) D σ H):=rfl
def aD(K:FK)(a:Ad)(E E1:XE):TS:=(GZ (BG K (AA 0) "latest") (AA 1) (AA 5))
theorem tQ:type_of% (AF (aD.eq_1 K a E E1) D σ H):=rfl
def aE(K:FK)(a:Ad)(E E1:XE):TS:=(AZ (AA 5))
theorem tR:type_of% (AF (aE.eq_1 K a E E1) D σ H):=rfl
def RS(K:FK)(a:Ad)(E:XE):TS:=(AJ (Z8 K a E E) (AJ (Z9 K a E E) (AJ (aA K a E E) (AJ (aB K a E E) (AJ (aC K a E E) (AJ (aD K a E E) (aE K a E E)))))))
def aF(K:FK)(a:Ad)(E E1:XE):TS:=(A4 (IL (A5 (a "Broom") "chosen" (GO K a) [] E (AA 0) (AC (AA 1) AE)) (IL (A5 (a "Fullest") "chosen" (GP K a) [] E (AA 0) (AC (AA 1) AE)) (A5 (a "Round") "chosen" (GQ K a) [] E (AA 0) (AC (AA 1) AE)))) (AR 3))
theorem tS:type_of% (AF (aF.eq_1 K a E E1) D σ H):=rfl
def aG(K:FK)(a:Ad)(E E1:XE):TS:=(AZ (LS (BK (GK K) (AC (AA 3) (AC (tC (.ty "int")) AE))) (LS (OR K (BK (GK K) (AC (AA 3) (AC (tC (.ty "bool")) AE)))) (AI (BZ K) (AA 3) (AA 2)))))
theorem tT:type_of% (AF (aG.eq_1 K a E E1) D σ H):=rfl
def RT(K:FK)(a:Ad)(E:XE):TS:=(AJ (aF K a E E) (aG K a E E))
def aH(K:FK)(a:Ad)(E E1:XE):TS:=(A4 (A5 (a "Hold") "waiting" (C9 K a) [] E (AA 2) AE) (AR 7))
theorem tU:type_of% (AF (aH.eq_1 K a E E1) D σ H):=rfl
def tV(K:FK)(a:Ad)(E E1:XE):TS:=(AZ (tC (.bl false)))
def aI(K:FK)(a:Ad)(E E1:XE):TS:=(BN (GA (CF (AI (BZ K) (AA 7) (CG AE))) (GA (C5 (DO K (BK (GK K) (AC (AA 6) (AC (tC (.ty "int")) AE))))) (DO K (BK (GK K) (AC (AA 6) (AC (tC (.ty "bool")) AE)))))) (tV K a E E) BP)
theorem tW:type_of% (AF (aI.eq_1 K a E E1) D σ H):=rfl
def tX(K:FK)(a:Ad)(E E1:XE):TS:=(AZ (tC (.bl false)))
def aJ(K:FK)(a:Ad)(E E1:XE):TS:=(BN (CF (AI (BQ K) (AA 6) (BO (HF K a) [] E (AC (AA 1) (AC (AA 3) (AC (AA 7) (AC (AI (AT K) (AA 4) (tC (.int 0))) (AC (AA 5) AE)))))))) (tX K a E E) BP)
theorem tY:type_of% (AF (aJ.eq_1 K a E E1) D σ H):=rfl
def aK(K:FK)(a:Ad)(E E1:XE):TS:=(A4 (AI (C2 K) (AA 5) (tC (.int 1))) (AR 5))
theorem tZ:type_of% (AF (aK.eq_1 K a E E1) D σ H):=rfl
def aL(K:FK)(a:Ad)(E E1:XE):TS:=(CY (A5 (a "Hold") "write" (FE K a) [] E (AA 2) (AC (AA 6) AE)))
theorem t3:type_of% (AF (aL.eq_1 K a E E1) D σ H):=rfl
def aM(K:FK)(a:Ad)(E E1:XE):TS:=(CD (DP K (AA 0)) (AR 6) (AJ (aH K a E E) (AJ (aI K a E E) (AJ (aJ K a E E) (AJ (aK K a E E) (aL K a E E))))))
theorem t4:type_of% (AF (aM.eq_1 K a E E1) D σ H):=rfl
def aN(K:FK)(a:Ad)(E E1:XE):TS:=(AZ (AI (BZ K) (A5 (a "Hold") "waiting" (C9 K a) [] E (AA 2) AE) (CG AE)))
theorem t5:type_of% (AF (aN.eq_1 K a E E1) D σ H):=rfl
def RU(K:FK)(a:Ad)(E:XE):TS:=(AJ (aM K a E E) (aN K a E E))
def aO(K:FK)(a:Ad)(E E1:XE):TS:=(A4 (BO (CO K a) [] E (AC (AA 1) (AC (tC (.int 10009)) (AC (AI (AT K) (AA 2) (tC (.int 0))) AE)))) (AR 5))
theorem t6:type_of% (AF (aO.eq_1 K a E E1) D σ H):=rfl
def RV(K:FK)(a:Ad)(E E1:XE):TS:=(AZ (AI (BZ K) (A5 (a "Hold") "write" (FE K a) [] E (AI (AT K) (AA 0) (tC (.int 0))) (AC (AA 5) AE)) (A5 (a "Hold") "write" (FE K a) [] E (AI (AT K) (AA 0) (tC (.int 1))) (AC (AA 5) AE))))
theorem t7:type_of% (AF (RV.eq_1 K a E E1) D σ H):=rfl
def aP(K:FK)(a:Ad)(E E1:XE):TS:=(BN (CF (AI (BZ K) (BO (CO K a) [] E (AC (AA 1) (AC (tC (.int 10007)) (AC (tC (.int 7)) AE)))) (tC (.int 0)))) (AJ (aO K a E E) (RV K a E E)) BP)
theorem t8:type_of% (AF (aP.eq_1 K a E E1) D σ H):=rfl
def aQ(K:FK)(a:Ad)(E E1:XE):TS:=(A4 (EZ (AC (BO (CO K a) [] E (AC (AA 1) (AC (tC (.int 10037)) (AC (AI (AT K) (AA 2) (tC (.int 0))) AE)))) (AC (BO (CO K a) [] E (AC (AA 1) (AC (tC (.int 10039)) (AC (AI (AT K) (AA 2) (tC (.int 1))) AE)))) AE))) (AR 6))
theorem t9:type_of% (AF (aQ.eq_1 K a E E1) D σ H):=rfl
def aR(K:FK)(a:Ad)(E E1:XE):TS:=(A4 (CG AE) (AR 7))
theorem uA:type_of% (AF (aR.eq_1 K a E E1) D σ H):=rfl
def aS(K:FK)(a:Ad)(E E1:XE):TS:=(CY (EQ K "list" GJ (AA 7) (AC (BK (OU K) (AC (tC (.int 0)) (AC (AI KP (AI KP (BK (DC K) (AC (AA 3) AE)) (tC (.int 1))) (BO (CO K a) [] E (AC (AI (C2 K) (AA 1) (AA 8)) (AC (tC (.int 10067)) (AC (tC (.int 9)) AE))))) AE))) AE)))
theorem uB:type_of% (AF (aS.eq_1 K a E E1) D σ H):=rfl
def aT(K:FK)(a:Ad)(E E1:XE):TS:=(CD (DI (AC (AI (ES K) (BO (CO K a) [] E (AC (AA 1) (AC (tC (.int 10061)) (AC (tC (.int 4)) AE)))) (BK (G1 K) (AC (AI (BQ K) (AA 3) (CG AE)) AE))) AE)) (AR 8) (aS K a E E))
theorem uC:type_of% (AF (aT.eq_1 K a E E1) D σ H):=rfl
def aU(K:FK)(a:Ad)(E E1:XE):TS:=(A4 (AI D7 (AA 1) (AI VJ (tC (.int 10)) (tC (.int 30)))) (AR 9))
theorem uD:type_of% (AF (aU.eq_1 K a E E1) D σ H):=rfl
def uE(K:FK)(a:Ad)(E E1:XE):TS:=(AZ (tC (.bl false)))
def aV(K:FK)(a:Ad)(E E1:XE):TS:=(BN (CF (AI (BQ K) (A5 (a "Hold") "change" (EW K a) [] E (AI (AT K) (AA 0) (tC (.int 0))) (AC (AA 6) (AC (AA 9) (AC (BK (FQ K) (AC (AA 7) AE)) AE)))) (A5 (a "Hold") "change" (EW K a) [] E (AI (AT K) (AA 0) (tC (.int 1))) (AC (AA 6) (AC (AA 9) (AC (BK (FQ K) (AC (AA 7) AE)) AE)))))) (uE K a E E) BP)
theorem uF:type_of% (AF (aV.eq_1 K a E E1) D σ H):=rfl
def aW(K:FK)(a:Ad)(E E1:XE):TS:=(CY (EQ K "list" GJ (AA 7) (AC (MH (AA 4) (AA 6)) AE)))
theorem uG:type_of% (AF (aW.eq_1 K a E E1) D σ H):=rfl
def aX(K:FK)(a:Ad)(E E1:XE):TS:=(BN (tB (KJ (AA 6) (AA 4))) (aW K a E E) BP)
theorem uH:type_of% (AF (aX.eq_1 K a E E1) D σ H):=rfl
def RW(K:FK)(a:Ad)(E E1:XE):TS:=(GZ (AA 4) (AA 6) (BK (DC K) (AC (AA 3) AE)))
theorem uI:type_of% (AF (RW.eq_1 K a E E1) D σ H):=rfl
def RX(K:FK)(a:Ad)(E E1:XE):TS:=(CY (EQ K "list" GJ (AA 3) (AC (EZ (AC (AA 6) (AC (AA 7) AE))) AE)))
theorem uJ:type_of% (AF (RX.eq_1 K a E E1) D σ H):=rfl
def RY(K:FK)(a:Ad)(E E1:XE):TS:=(AZ (tC (.bl true)))
theorem uK:type_of% (AF (RY.eq_1 K a E E1) D σ H):=rfl
def RZ(K:FK)(a:Ad)(E:XE):TS:=(AJ (aP K a E E) (AJ (aQ K a E E) (AJ (aR K a E E) (AJ (aT K a E E) (AJ (aU K a E E) (AJ (aV K a E E) (AJ (aX K a E E) (AJ (RW K a E E) (AJ (RX K a E E) (RY K a E E))))))))))
def aY(K:FK)(a:Ad)(E E1:XE):TS:=(A4 (A5 (a "Hold") "waiting" (C9 K a) [] E (AA 1) AE) (AR 5))
theorem uL:type_of% (AF (aY.eq_1 K a E E1) D σ H):=rfl
def uM(K:FK)(a:Ad)(E E1:XE):TS:=(AZ (tC (.bl false)))
def aZ(K:FK)(a:Ad)(E E1:XE):TS:=(BN (C5 (DO K (BO (EN K a) [] E (AC (AI (AT K) (AA 0) (AA 6)) (AC (AA 1) (AC (BO (HF K a) [] E (AC (AA 6) (AC (AA 2) (AC (AA 5) (AC (AI (AT K) (AA 3) (tC (.int 0))) (AC (tC (.int 0)) AE)))))) AE)))))) (uM K a E E) BP)
theorem uN:type_of% (AF (aZ.eq_1 K a E E1) D σ H):=rfl
def a0(K:FK)(a:Ad)(E E1:XE):TS:=(CD (DI (AC (tC (.int 2)) AE)) (AR 7) (aZ K a E E))
theorem uO:type_of% (AF (a0.eq_1 K a E E1) D σ H):=rfl
def bA(K:FK)(a:Ad)(E E1:XE):TS:=(CD (DI (AC (tC (.int 2)) AE)) (AR 6) (a0 K a E E))
theorem uP:type_of% (AF (bA.eq_1 K a E E1) D σ H):=rfl
def uQ(K:FK)(a:Ad)(E E1:XE):TS:=(AZ (tC (.bl false)))
def bB(K:FK)(a:Ad)(E E1:XE):TS:=(BN (C5 (DO K (BO (EN K a) [] E (AC (AI (AT K) (AA 0) (tC (.int 2))) (AC (AA 1) (AC (AI D7 (AA 7) (AI (AT K) (AA 3) (tC (.int 0)))) AE)))))) (uQ K a E E) BP)
theorem uR:type_of% (AF (bB.eq_1 K a E E1) D σ H):=rfl
def bC(K:FK)(a:Ad)(E E1:XE):TS:=(CD (DI (AC (AI (AT K) (AA 4) (tC (.int 0))) AE)) (AR 7) (bB K a E E))
theorem uS:type_of% (AF (bC.eq_1 K a E E1) D σ H):=rfl
def uT(K:FK)(a:Ad)(E E1:XE):TS:=(AZ (tC (.bl false)))
def bD(K:FK)(a:Ad)(E E1:XE):TS:=(BN (C5 (DO K (BO (EN K a) [] E (AC (AI (AT K) (AA 0) (tC (.int 3))) (AC (AA 1) (AC (AI D7 (AA 7) (AI (AT K) (AA 3) (tC (.int 0)))) AE)))))) (uT K a E E) BP)
theorem uU:type_of% (AF (bD.eq_1 K a E E1) D σ H):=rfl
def bE(K:FK)(a:Ad)(E E1:XE):TS:=(CD (DI (AC (AI (AT K) (AA 4) (tC (.int 1))) AE)) (AR 7) (bD K a E E))
theorem uV:type_of% (AF (bE.eq_1 K a E E1) D σ H):=rfl
def bF(K:FK)(a:Ad)(E E1:XE):TS:=(AZ (AI (BZ K) (A5 (a "Hold") "waiting" (C9 K a) [] E (AA 1) AE) (AA 5)))
theorem uW:type_of% (AF (bF.eq_1 K a E E1) D σ H):=rfl
def R0(K:FK)(a:Ad)(E:XE):TS:=(AJ (aY K a E E) (AJ (bA K a E E) (AJ (bC K a E E) (AJ (bE K a E E) (bF K a E E)))))
def bG(K:FK)(a:Ad)(E E1:XE):TS:=(A4 (CG (AC (AI (C2 K) (tC (.int 1)) (BO (CO K a) [] E (AC (AA 0) (AC (tC (.int 10103)) (AC (tC (.int 5)) AE))))) (AC (AI (C2 K) (tC (.int 2)) (BO (CO K a) [] E (AC (AA 0) (AC (tC (.int 10111)) (AC (tC (.int 7)) AE))))) AE))) (AR 1))
theorem uX:type_of% (AF (bG.eq_1 K a E E1) D σ H):=rfl
def bH(K:FK)(a:Ad)(E E1:XE):TS:=(A4 (CG (AC (DA (a "Hold") (FD K a) [] E (AC (DA (a "Plank") (FB K a) [] E (AC (AI (AT K) (AA 1) (tC (.int 0))) (AC (tC (.int 1)) AE))) AE)) (AC (DA (a "Hold") (FD K a) [] E (AC (DA (a "Plank") (FB K a) [] E (AC (AI (AT K) (AA 1) (tC (.int 1))) (AC (tC (.int 1)) AE))) AE)) AE))) (AR 2))
theorem uY:type_of% (AF (bH.eq_1 K a E E1) D σ H):=rfl
def bI(K:FK)(a:Ad)(E E1:XE):TS:=(CY (A5 (a "Hold") "change" (EW K a) [] E (AA 3) (AC (EZ (AC (tC (.int 0)) (AC (tC (.int 0)) AE))) (AC (tC (.int 1)) (AC (CG AE) AE)))))
theorem uZ:type_of% (AF (bI.eq_1 K a E E1) D σ H):=rfl
def bJ(K:FK)(a:Ad)(E E1:XE):TS:=(CD (DP K (AA 2)) (AR 3) (bI K a E E))
theorem u2:type_of% (AF (bJ.eq_1 K a E E1) D σ H):=rfl
def bK(K:FK)(a:Ad)(E E1:XE):TS:=(A4 (DA (a "Round") (GN K a) [] E AE) (AR 4))
theorem u3:type_of% (AF (bK.eq_1 K a E E1) D σ H):=rfl
def bL(K:FK)(a:Ad)(E E1:XE):TS:=(A4 (BO (CO K a) [] E (AC (AI (C2 K) (AA 0) (AA 5)) (AC (tC (.int 10133)) (AC (tC (.int 2)) AE)))) (AR 6))
theorem u4:type_of% (AF (bL.eq_1 K a E E1) D σ H):=rfl
def u5(K:FK)(a:Ad)(E E1:XE):TS:=(AZ (tC (.bl false)))
def bM(K:FK)(a:Ad)(E E1:XE):TS:=(BN (C5 (DO K (BO (EN K a) [] E (AC (AA 4) (AC (AI (AT K) (AA 2) (AA 6)) (AC (AI D7 (AA 5) (AI (AT K) (AA 1) (AA 6))) AE)))))) (u5 K a E E) BP)
theorem u6:type_of% (AF (bM.eq_1 K a E E1) D σ H):=rfl
def bN(K:FK)(a:Ad)(E E1:XE):TS:=(CD (DI (AC (tC (.int 12)) AE)) (AR 5) (AJ (bL K a E E) (bM K a E E)))
theorem u7:type_of% (AF (bN.eq_1 K a E E1) D σ H):=rfl
def bO(K:FK)(a:Ad)(E E1:XE):TS:=(AZ (tC (.bl true)))
theorem u8:type_of% (AF (bO.eq_1 K a E E1) D σ H):=rfl
def R1(K:FK)(a:Ad)(E:XE):TS:=(AJ (bG K a E E) (AJ (bH K a E E) (AJ (bJ K a E E) (AJ (bK K a E E) (AJ (bN K a E E) (bO K a E E))))))
def u9(K:FK)(a:Ad)(E E1:XE):TS:=(AZ (tC (.bl false)))
def bP(K:FK)(a:Ad)(E E1:XE):TS:=(BN (CF (AI (BQ K) (A5 (a "Hold") "needed" (K7 K a) [] E (AA 0) (AC (AA 3) AE)) (KU K (AI (AT K) (AI (AT K) (AA 1) (AA 3)) (tC (.int 1)))))) (u9 K a E E) BP)
theorem vA:type_of% (AF (bP.eq_1 K a E E1) D σ H):=rfl
def bQ(K:FK)(a:Ad)(E E1:XE):TS:=(CD (DI (AC (BK (DC K) (AC (AA 1) AE)) AE)) (AR 3) (bP K a E E))
theorem vB:type_of% (AF (bQ.eq_1 K a E E1) D σ H):=rfl
def vC(K:FK)(a:Ad)(E E1:XE):TS:=(AZ (tC (.bl false)))
def bR(K:FK)(a:Ad)(E E1:XE):TS:=(BN (CF (AI (BQ K) (A5 (a "Hold") "newest" (HB K a) [] E (AA 0) (AC (AA 4) AE)) (MH (AA 2) (AA 4)))) (vC K a E E) BP)
theorem vD:type_of% (AF (bR.eq_1 K a E E1) D σ H):=rfl
def bS(K:FK)(a:Ad)(E E1:XE):TS:=(CD (O6 (AA 2)) (AR 4) (bR K a E E))
theorem vE:type_of% (AF (bS.eq_1 K a E E1) D σ H):=rfl
def bT(K:FK)(a:Ad)(E E1:XE):TS:=(AZ (AI (BZ K) (A5 (a "Hold") "change" (EW K a) [] E (AA 0) (AC (EZ (AC (tC (.int 0)) (AC (tC (.int 0)) AE))) (AC (tC (.int 7)) (AC (CG AE) AE)))) (BK (DC K) (AC (AA 1) AE))))
theorem vF:type_of% (AF (bT.eq_1 K a E E1) D σ H):=rfl
def R3(K:FK)(a:Ad)(E:XE):TS:=(AJ (bQ K a E E) (AJ (bS K a E E) (bT K a E E)))
def bU(K:FK)(a:Ad)(E E1:XE):TS:=(A4 (BO (HA K a) [] E (AC (AA 0) (AC (tC (.int 0)) AE))) (AR 1))
theorem vG:type_of% (AF (bU.eq_1 K a E E1) D σ H):=rfl
def bV(K:FK)(a:Ad)(E E1:XE):TS:=(A4 (EZ (AC (AI (C2 K) (tC (.int 1)) (BO (CO K a) [] E (AC (AA 1) (AC (tC (.int 10069)) (AC (tC (.int 6)) AE))))) (AC (AI (C2 K) (tC (.int 1)) (BO (CO K a) [] E (AC (AA 1) (AC (tC (.int 10079)) (AC (tC (.int 4)) AE))))) AE))) (AR 2))
theorem vH:type_of% (AF (bV.eq_1 K a E E1) D σ H):=rfl
def bW(K:FK)(a:Ad)(E E1:XE):TS:=(A4 (CG (AC (DA (a "Plank") (FB K a) [] E (AC (AI (AT K) (AA 2) (tC (.int 0))) (AC (AI (AT K) (AA 2) (tC (.int 1))) AE))) (AC (DA (a "Plank") (FB K a) [] E (AC (AI (AT K) (AA 2) (tC (.int 0))) (AC (AI (AT K) (AA 2) (tC (.int 1))) AE))) AE))) (AR 3))
theorem vI:type_of% (AF (bW.eq_1 K a E E1) D σ H):=rfl
def bX(K:FK)(a:Ad)(E E1:XE):TS:=(A4 (CG (AC (DA (a "Hold") (FD K a) [] E (AC (AI (AT K) (AA 3) (tC (.int 0))) AE)) (AC (DA (a "Hold") (FD K a) [] E (AC (AI (AT K) (AA 3) (tC (.int 1))) AE)) AE))) (AR 4))
theorem vJ:type_of% (AF (bX.eq_1 K a E E1) D σ H):=rfl
def bY(K:FK)(a:Ad)(E E1:XE):TS:=(A4 (CG AE) (AR 5))
theorem vK:type_of% (AF (bY.eq_1 K a E E1) D σ H):=rfl
def bZ(K:FK)(a:Ad)(E E1:XE):TS:=(A4 MI (AR 6))
theorem vL:type_of% (AF (bZ.eq_1 K a E E1) D σ H):=rfl
def vM(K:FK)(a:Ad)(E E1:XE):TS:=(AZ (tC (.bl false)))
def cA(K:FK)(a:Ad)(E E1:XE):TS:=(BN (C5 (DO K (BO (K9 K a) [] E (AC (AA 4) (AC (AA 7) (AC (AA 2) (AC (AA 5) (AC (AA 6) AE)))))))) (vM K a E E) BP)
theorem vN:type_of% (AF (cA.eq_1 K a E E1) D σ H):=rfl
def cB(K:FK)(a:Ad)(E E1:XE):TS:=(CD (DP K (N7 (MR K) (AA 0) (MF (tC (.int 1))) (MF (tC (.int 121))))) (AR 7) (cA K a E E))
theorem vO:type_of% (AF (cB.eq_1 K a E E1) D σ H):=rfl
def R4(K:FK)(a:Ad)(E E1:XE):TS:=(A4 (CG (AC (M0 (a "Broom")) (AC (M0 (a "Fullest")) (AC (DA (a "Round") (GN K a) [] E AE) (AC (DA (a "Round") (GN K a) [] E AE) AE))))) (AR 8))
theorem vP:type_of% (AF (R4.eq_1 K a E E1) D σ H):=rfl
def vQ(K:FK)(a:Ad)(E E1:XE):TS:=(AZ (tC (.bl false)))
def cC(K:FK)(a:Ad)(E E1:XE):TS:=(BN (C5 (DO K (BK (GK K) (AC (AA 9) (AC (tC (.ref (a "Broom"))) AE))))) (vQ K a E E) BP)
theorem vR:type_of% (AF (cC.eq_1 K a E E1) D σ H):=rfl
def R5(K:FK)(a:Ad)(E E1:XE):TS:=(CD (DP K (AA 8)) (AR 9) (cC K a E E))
theorem vS:type_of% (AF (R5.eq_1 K a E E1) D σ H):=rfl
def R6(K:FK)(a:Ad)(E E1:XE):TS:=(A4 (CG (AC (AI (C2 K) (tC (.int 1)) (BO (CO K a) [] E (AC (AA 1) (AC (tC (.int 10091)) (AC (tC (.int 9)) AE))))) (AC (AI (C2 K) (tC (.int 1)) (BO (CO K a) [] E (AC (AA 1) (AC (tC (.int 10093)) (AC (tC (.int 9)) AE))))) AE))) (AR 10))
theorem vT:type_of% (AF (R6.eq_1 K a E E1) D σ H):=rfl
def vU(K:FK)(a:Ad)(E E1:XE):TS:=(AZ (tC (.bl false)))
def R7(K:FK)(a:Ad)(E E1:XE):TS:=(BN (HW (CF (AI (BQ K) (A5 (a "Hold") "waiting" (C9 K a) [] E (AI (AT K) (AA 4) (tC (.int 0))) AE) (CG AE))) (C5 (DO K (BO (LC K a) [] E (AC (AA 8) (AC (AI (AT K) (AA 4) (tC (.int 0))) (AC (AA 5) (AC (AA 2) (AC (AA 10) AE))))))))) (vU K a E E) BP)
theorem vV:type_of% (AF (R7.eq_1 K a E E1) D σ H):=rfl
def NH(K:FK)(a:Ad)(E E1:XE):TS:=(A4 (BO (CO K a) [] E (AC (AA 1) (AC (tC (.int 10099)) (AC (tC (.int 4)) AE)))) (AR 11))
theorem vW:type_of% (AF (NH.eq_1 K a E E1) D σ H):=rfl
def NI(K:FK)(a:Ad)(E E1:XE):TS:=(A4 (AI (ES K) (AI (AT K) (AA 10) (AI KP (AA 11) (tC (.int 2)))) (BK (G1 K) (AC (AI (BQ K) (A5 (a "Hold") "waiting" (C9 K a) [] E (AI (AT K) (AA 4) (tC (.int 0))) AE) (CG AE)) AE))) (AR 12))
theorem vX:type_of% (AF (NI.eq_1 K a E E1) D σ H):=rfl
def IQ(K:FK)(a:Ad)(E E1:XE):TS:=(A4 (A5 (a "Plank") "writings" (IM K a) [] E (AI (AT K) (AA 3) (tC (.int 0))) AE) (AR 13))
theorem vY:type_of% (AF (IQ.eq_1 K a E E1) D σ H):=rfl
def IR(K:FK)(a:Ad)(E E1:XE):TS:=(A4 (BO (IN K a) [] E (AC (AI (AT K) (AA 4) (tC (.int 0))) (AC (AI (AT K) (AA 8) (AA 11)) AE))) (AR 14))
theorem vZ:type_of% (AF (IR.eq_1 K a E E1) D σ H):=rfl
def v0(K:FK)(a:Ad)(E E1:XE):TS:=(AZ (tC (.bl false)))
def IS(K:FK)(a:Ad)(E E1:XE):TS:=(BN (GA (C5 (DO K (BK (GK K) (AC (AA 14) (AC (tC (.ty "list")) AE))))) (CF (AI (BQ K) (A5 (a "Plank") "writings" (IM K a) [] E (AI (AT K) (AA 3) (tC (.int 0))) AE) (AI (C2 K) (AA 13) (BK (DC K) (AC (AA 14) AE)))))) (v0 K a E E) BP)
theorem v1:type_of% (AF (IS.eq_1 K a E E1) D σ H):=rfl
def v2(K:FK)(a:Ad)(E E1:XE):TS:=(AZ (tC (.bl false)))
def IT(K:FK)(a:Ad)(E E1:XE):TS:=(BN (C5 (DO K (BO (LD K a) [] E (AC (AA 14) (AC (BK (O8 K) (AC (AA 11) (AC (tC (.int 2)) AE))) (AC (AI (AT K) (AA 4) (tC (.int 1))) (AC (AA 5) (AC (AA 2) (AC (AA 12) AE))))))))) (v2 K a E E) BP)
theorem v3:type_of% (AF (IT.eq_1 K a E E1) D σ H):=rfl
def v4(K:FK)(a:Ad)(E E1:XE):TS:=(AZ (tC (.bl false)))
def IU(K:FK)(a:Ad)(E E1:XE):TS:=(BN (GA (CF (AI (BQ K) (A5 (a "Hold") "waiting" (C9 K a) [] E (AI (AT K) (AA 4) (tC (.int 0))) AE) (CG AE))) (GA (CF (AI (BQ K) (BO (IN K a) [] E (AC (AI (AT K) (AA 4) (tC (.int 0))) (AC (AI (AT K) (AA 8) (AI KP (tC (.int 1)) (AI D7 (AA 11) (tC (.int 2))))) AE))) (CG AE))) (C5 (DO K (BO (LE K a) [] E (AC (AA 1) AE)))))) (v4 K a E E) BP)
theorem v5:type_of% (AF (IU.eq_1 K a E E1) D σ H):=rfl
def v6(K:FK)(a:Ad)(E E1:XE):TS:=(AZ (tC (.bl false)))
def cD(K:FK)(a:Ad)(E E1:XE):TS:=(BN (CF (AI (BQ K) (A5 (a "Plank") "read" (GL K a) [] E (AI (AT K) (AA 3) (tC (.int 0))) (AC (AA 15) AE)) (A5 (a "Plank") "read" (GL K a) [] E (AI (AT K) (AA 3) (tC (.int 1))) (AC (AA 15) AE)))) (v6 K a E E) BP)
theorem v7:type_of% (AF (cD.eq_1 K a E E1) D σ H):=rfl
def IV(K:FK)(a:Ad)(E E1:XE):TS:=(CD (DI (AC (AI (AT K) (AA 2) (tC (.int 0))) AE)) (AR 15) (cD K a E E))
theorem v8:type_of% (AF (IV.eq_1 K a E E1) D σ H):=rfl
def v9(K:FK)(a:Ad)(E E1:XE):TS:=(AZ (tC (.bl false)))
def IW(K:FK)(a:Ad)(E E1:XE):TS:=(BN (C5 (DO K (BO (LG K a) [] E (AC (AI (AT K) (AA 4) (tC (.int 0))) (AC (AA 5) (AC (AA 6) AE)))))) (v9 K a E E) BP)
theorem wA:type_of% (AF (IW.eq_1 K a E E1) D σ H):=rfl
def IX(K:FK)(a:Ad)(E E1:XE):TS:=(AZ (NX (AI E6 (AA 11) (tC (.int 2))) (BO (EN K a) [] E (AC (AI (AT K) (AA 8) (AA 11)) (AC (AI (AT K) (AA 4) (tC (.int 0))) (AC (AI D7 (AI (C2 K) (AA 12) (BK (DC K) (AC (AA 14) AE))) (AI (AT K) (AA 2) (tC (.int 0)))) AE))))))
theorem wB:type_of% (AF (IX.eq_1 K a E E1) D σ H):=rfl
def R8(K:FK)(a:Ad)(E:XE):TS:=(AJ (bU K a E E) (AJ (bV K a E E) (AJ (bW K a E E) (AJ (bX K a E E) (AJ (bY K a E E) (AJ (bZ K a E E) (AJ (cB K a E E) (AJ (R4 K a E E) (AJ (R5 K a E E) (AJ (R6 K a E E) (AJ (R7 K a E E) (AJ (NH K a E E) (AJ (NI K a E E) (AJ (IQ K a E E) (AJ (IR K a E E) (AJ (IS K a E E) (AJ (IT K a E E) (AJ (IU K a E E) (AJ (IV K a E E) (AJ (IW K a E E) (IX K a E E)))))))))))))))))))))
end
end L2
namespace L2
local macro_rules
 | `(tactic| push_cast[$ls,*])=>`(tactic| simp only[↓jM,↓jN,↓jO,↓jP,↓jQ,↓jR,↓jS,↓jT,↓jU,↓jV,↓jW,↓jX,↓jY,↓jZ,↓j2,↓j3,↓j4,↓j5,↓j6,↓j7,↓j8,↓j9,↓kA,↓kB,↓kC,↓kD,↓kE,↓kF,↓kG,↓kH,↓kI,↓kJ,↓kK,↓kL,↓kM,↓kN,↓kO,↓kP,↓kQ,↓kR,↓kS,↓kT,↓kU,↓kW,↓kX,↓kY,↓kZ,↓k9,↓lA,↓lB,↓lC,↓lD,↓lE,
     ↓lF,↓lG,↓lI,↓lJ,↓lK,↓lL,↓lM,↓lN,↓lO,↓lP,↓lQ,↓lU,↓lW,↓lV,↓lX,↓lY,↓lZ,↓l6,↓l8,↓lS,↓lR,↓lT,↓l9,↓mB,↓mC,↓mD,↓mE,↓mF,↓mG,↓mH,↓mI,↓mJ,↓mK,↓mM,↓mO,↓mP,↓mQ,↓mR,↓mS,↓mT,↓mU,↓mV,↓mW,↓VQ,↓mX,
     KP,D7,VI,VJ,i7,i8,Ends.drop,A8,List.map_cons,List.map_nil,List.length_cons,List.length_nil,List.reduceReplicate,Nat.reduceAdd,Nat.reduceSub,Nat.zero_add,List.cons_append,List.nil_append,List.append_nil,List.getElem?_cons_zero,List.getElem?_cons_succ,Option.some.injEq,Option.join_some,List.set_cons_zero,List.set_cons_succ,
     V.int.injEq,V.ref.injEq,V.bl.injEq,V.str.injEq,List.cons.injEq,and_true,true_and,exists_eq_left',exists_eq_left,exists_eq',exists_eq,exists_and_left,exists_and_right,reduceCtorEq,false_and,and_false,or_false,false_or,exists_false,decide_eq_true_eq,Bool.not_eq_true',Bool.not_eq_true,decide_eq_false_iff_not,eq_self_iff_true,if_true,Bool.false_eq_true,if_false,ite_true,Bool.true_eq_false,forall_const,and_assoc,Int.reduceToNat,Int.reduceLT,Int.reduceLE,Int.reduceEq,Nat.reduceLeDiff,Int.toNat_natCast,not_true_eq_false,not_false_eq_true,Bool.not_false,Bool.not_true,↓o9,↓pA,↓pB,↓pC,↓pD,↓pE,↓pF,↓pG,↓pH,↓o6,↓o3,↓oY,↓o0,↓m6,↓pK,↓pL,↓pS,↓pW,↓pX,↓pY,$ls,*])
section
variable{K:W.Frag}{a:Ad}{vs:List V}{H:Hp}{Q:VK}{E:XK}
theorem wC(h:FB K a vs H Q E):QL K a (λ_=>E) (BB Q) (A8 ["self","blocks","cells"] vs) H:=by
 obtain⟨p,dx,m,w,rfl,T,hp,hm,h1,h2,q⟩:=h
 push_cast[QL,↓qV,↓qW,↓qX]
 refine⟨by omega,by omega,?_⟩
 refine OS (G3 m (by omega)) (λi ys H'=>Same H H'/\∃ ts:List Addr,ys=ts.map V.ref/\Paired (λt r=>H' t=some (.tup r)) ts (List.replicate i (List.replicate w .non))) ⟨Same.refl _,[],rfl,.nil⟩ (λi ys H' hi hl ⟨s,ts,e,P⟩=> ?_) (λys H' hl ⟨s,ts,e,P⟩ cl hcl=> ?_)
 ·push_cast[E8,Option.join_some,Int.zero_add]
  refine⟨by decide,λt ht=>.inr ?_⟩
  have fin:∀ (t':Addr) (H2:Hp),Same H' H2->H2 t'=some (.tup (List.replicate w .non))->Same H H2/\∃ ts':List Addr,ys++[V.ref t']=ts'.map V.ref/\Paired (λt r=>H2 t=some (.tup r)) ts' (List.replicate (i+1) (List.replicate w .non)):=λt' H2 s2 e2=>by
   refine⟨s.trans s2,ts++[t'],by rw[e,List.map_append];rfl,?_⟩
   rw[List.replicate_succ']
   exact Paired.snoc (Paired.mapP P λt r z=>s2 _ _ z) e2
  have s1:Same H' (upd H' t (.tup [V.non])):=λb o z=>by rw[AH (AY z ht)];exact z
  refine⟨t,w,[.non],rfl,rfl,SqT.of AK,by simp,by omega,by omega,G3 _ (by simp;omega),λe1=> ?_,λe1 u hu=> ?_⟩
  ·have e1:w=1:=by omega
   refine fin t _ s1 ?_
   rw[AK,e1];rfl
  ·rw[Int.toNat_natCast,VS]
   exact fin u _ (s1.trans λb o z=>by rw[AH (AY z hu)];exact z) AK
 ·have npc:p≠cl:=AY (s _ _ hp) hcl
  have e1:upd H' cl (HO.lst ys) p=some (HO.ins (a "Plank") dx []):=by rw[AH npc];exact s _ _ hp
  refine⟨_,_,_,e1,T.cl,T.nC,by decide,_,_,_,AK,T.cl,T.nW,OT (by decide),_,_,_,AK,T.cl,T.nN,OT (n:=1000) (Nat.succ_lt_succ (OT (n:=999) (by decide))),?_⟩
  rw[p8,F6,F6]
  refine q cl _ (s.free hcl) ⟨⟨dx,AK⟩,⟨ts,by rw[AH npc.symm,AK,e],?_⟩,λr hr=> ?_,by simpa using hm,h2⟩ λb o eb hb=> ?_
  ·refine Paired.mapP P λt r z=> ?_
   rw[AH (A6 z (s _ _ hp) (by intro z';cases z')),AH (AY z hcl)]
   exact z
  ·rw[List.eq_of_mem_replicate hr,List.length_replicate]
  ·rw[AH hb,AH (AY (s _ _ eb) hcl)]
   exact s _ _ eb
theorem wD(h:FU K a vs H Q E):QM K a (λ_=>E) (BB Q) (A8 ["self"] vs) H:=by
 obtain⟨p,cl,w,rows,n,rfl,T,P,q⟩:=h
 obtain⟨dx,h1⟩:=P.ob
 obtain⟨ts,h2,h3⟩:=P.ls
 push_cast[QM,↓qY]
 refine⟨_,_,_,h1,T.cl,T.nC,_,M5 _ _ _,rows.length,.inl ⟨_,SqL.of h2,?_⟩,q⟩
 rw[List.length_map,h3.length]
theorem wE(h:KW K a vs H Q E):QN K a (λ_=>E) (BB Q) (A8 ["self"] vs) H:=by
 obtain⟨p,cl,w,rows,n,rfl,T,P,q⟩:=h
 obtain⟨dx,h1⟩:=P.ob
 push_cast[QN,↓qZ]
 exact⟨_,_,_,h1,T.cl,T.nW,_,WI _ _ _,q⟩
theorem wF(h:FV K a vs H Q E):QQ K a (λ_=>E) (BB Q) (A8 ["self","block"] vs) H:=by
 obtain⟨p,cl,w,rows,n,b,rfl,T,P,q,qe⟩:=h
 obtain⟨dx,h1⟩:=P.ob
 obtain⟨ts,h2,h3⟩:=P.ls
 push_cast[QQ,↓rD,↓rE]
 have hl:rows.length=(ts.map V.ref).length:=by rw[List.length_map,h3.length]
 split
 ·rename_i h0
  refine⟨_,_,_,h1,T.cl,T.nC,_,M5 _ _ _,rows.length,.inl ⟨_,SqL.of h2,hl⟩,?_⟩
  split
  ·exact⟨by decide,qe (by omega)⟩
  ·exact q h0 (by omega)
 ·exact⟨by decide,qe (by omega)⟩
theorem cE(cl:Addr)(w n:Int):(pf cl w n).lookup ("ask_for_block":Str)=none:=G5 _ _ _ (by decide +kernel) (by decide +kernel) (by decide +kernel)
theorem wG(h:GL K a vs H Q E):RB K a (λ_=>E) (BB Q) (A8 ["self","block"] vs) H:=by
 obtain⟨p,cl,w,rows,n,b,rfl,T,P,q,qe⟩:=h
 obtain⟨dx,h1⟩:=P.ob
 obtain⟨ts,h2,h3⟩:=P.ls
 push_cast[RB,↓sI,↓sJ,FV]
 refine⟨_,_,h1,cE _ _ _,T,cl,w,rows,⟨n,P⟩,λh0 hb=>⟨_,_,_,h1,T.cl,T.nC,_,M5 _ _ _,?_⟩,qe⟩
 obtain⟨i,rfl⟩:∃ i:Nat,b=i:=⟨b.toNat,by omega⟩
 have hi:i<rows.length:=by omega
 obtain⟨t,et,ht⟩:=MT h3 (List.getElem?_eq_getElem hi)
 refine A7 (SqL.of h2) rfl (v:=.ref t) (by rw[List.getElem?_map,et];rfl) ?_
 rw[VQ]
 exact⟨_,.inr (SqT.of ht),q i _ rfl (List.getElem?_eq_getElem hi)⟩
theorem wH(h:KY K a vs H Q E):RC K a (λ_=>E) (BB Q) (A8 ["self","block","values"] vs) H:=by
 obtain⟨p,cl,w,rows,n,b,v,xs,rfl,T,P,hv,hx,q,qe⟩:=h
 obtain⟨dx,h1⟩:=P.ob
 obtain⟨ts,h2,h3⟩:=P.ls
 have npc:=P.ne
 push_cast[RC,↓sK,↓sL,↓sM,↓sN,↓sO,FV]
 refine⟨_,_,h1,cE _ _ _,T,cl,w,rows,⟨n,P⟩,λh0 hb=>⟨xs.length,.inl ⟨_,hv,rfl⟩,_,_,_,h1,T.cl,T.nW,_,WI _ _ _,?_⟩,λz=>qe (z.imp id .inl)⟩
 obtain⟨i,rfl⟩:∃ i:Nat,b=i:=⟨b.toNat,by omega⟩
 have hi:i<rows.length:=by omega
 push_cast[]
 split
 ·exact⟨by decide,qe (.inr (.inr (by omega)))⟩
 ·rename_i hw
  have hw:xs.length=w:=by omega
  refine⟨xs,.inl ⟨hv,λt ht=> ?_⟩⟩
  have ntp:p≠t:=AY h1 ht
  have ntc:cl≠t:=AY h2 ht
  refine⟨_,_,_,by rw[AH ntp];exact h1,T.cl,T.nC,_,M5 _ _ _,?_⟩
  refine⟨cl,ts.map V.ref,(i:Int),i,rfl,rfl,by rw[AH ntc];exact h2,?_,?_⟩
  ·unfold E4
   rw[if_pos (by omega),if_pos (by rw[List.length_map,h3.length];omega),Int.toNat_natCast]
  ·refine⟨_,_,_,by rw[AH npc,AH ntp];exact h1,T.cl,T.nN,_,WJ _ _ _,?_⟩
   push_cast[]
   refine⟨_,_,by rw[AH npc,AH ntp];exact h1,by show 3<1000;decide,?_⟩
   rw[p9]
   refine q i rfl hi hw _ ⟨⟨dx,AK⟩,⟨ts.set i t,?_,?_⟩,λr hr=> ?_,by rw[List.length_set];exact P.sz,P.sw⟩ λx o ex hxn=> ?_
   ·rw[AH npc.symm,AK,List.map_set]
   ·have keep:∀ u r,H u=some (.tup r)->upd (upd (upd H t (.tup xs)) cl (.lst ((ts.map V.ref).set i (.ref t)))) p (.ins (a "Plank") dx (pf cl w ((n:Int)+1))) u=some (.tup r):=λu r hu=>by
     rw[AH (A6 hu h1 (by intro z;cases z)),AH (A6 hu h2 (by intro z;cases z)),AH (AY hu ht)]
     exact hu
    refine VR ?_ i (Paired.mapP h3 keep)
    rw[AH ntp.symm,AH ntc.symm,AK]
   ·rcases List.mem_or_eq_of_mem_set hr with z | z
    ·exact P.wd r z
    ·rw[z];exact hw
   ·have hxn:x≠p/\x≠cl:=⟨λz=>hxn (.inl z),λz=>hxn (.inr z)⟩
    rw[AH hxn.1,AH hxn.2,AH (AY ex ht)]
    exact ex
theorem R9(cl:Addr)(w n:Int):(pf cl w n).lookup ("read":Str)=none:=G5 _ _ _ (by decide +kernel) (by decide +kernel) (by decide +kernel)
theorem wI(cl:Addr)(w n:Int):(pf cl w n).lookup ("write":Str)=none:=G5 _ _ _ (by decide +kernel) (by decide +kernel) (by decide +kernel)
theorem cF(cl:Addr)(w n:Int):(pf cl w n).lookup ("writings":Str)=none:=G5 _ _ _ (by decide +kernel) (by decide +kernel) (by decide +kernel)
theorem wJ(h:FB K a vs H Q E):vs.length=3:=by
 obtain⟨_,_,_,_,rfl,_⟩:=h
 rfl
theorem wK(h:FU K a vs H Q E):vs.length=1:=by
 obtain⟨_,_,_,_,_,rfl,_⟩:=h
 rfl
theorem wL(h:KW K a vs H Q E):vs.length=1:=by
 obtain⟨_,_,_,_,_,rfl,_⟩:=h
 rfl
theorem wM(h:FV K a vs H Q E):vs.length=2:=by
 obtain⟨_,_,_,_,_,_,rfl,_⟩:=h
 rfl
theorem wN(h:GL K a vs H Q E):vs.length=2:=by
 obtain⟨_,_,_,_,_,_,rfl,_⟩:=h
 rfl
theorem wO(h:KY K a vs H Q E):vs.length=3:=by
 obtain⟨_,_,_,_,_,_,_,_,rfl,_⟩:=h
 rfl
theorem wP(h:IM K a vs H Q E):QP K a (λ_=>E) (BB Q) (A8 ["self"] vs) H:=by
 obtain⟨p,cl,w,rows,n,rfl,T,P,q⟩:=h
 obtain⟨dx,h1⟩:=P.ob
 push_cast[QP,↓rC]
 exact⟨_,_,_,h1,T.cl,T.nN,_,WJ _ _ _,q⟩
theorem wQ(h:IM K a vs H Q E):vs.length=1:=by
 obtain⟨_,_,_,_,_,rfl,_⟩:=h
 rfl
theorem wR(h:CO K a vs H Q E):QS K a (λ_=>E) (BB Q) (A8 ["cell","prime","many","low"] vs) H:=by
 obtain⟨c,p,m,rfl,h0,h1,h2,q⟩:=h
 push_cast[QS,↓rJ,↓rK]
 have b1:=Int.emod_nonneg (c+p / 3) (show p≠0 by omega)
 have b2:=Int.emod_lt_of_pos (c+p / 3) h0
 unfold CJ at q
 revert b1 b2 q
 generalize (c+p / 3) % p=low
 intro q b1 b2
 have b3:=Int.emod_nonneg (low * low) (show p≠0 by omega)
 have b4:=Int.emod_lt_of_pos (low * low) h0
 exact⟨⟨by decide,by decide⟩,h0,.inl ⟨by omega,by omega⟩,h0,.inl ⟨by omega,by omega⟩,h0,h2,q⟩
theorem wS(h:HA K a vs H Q E):QR K a (λ_=>E) (BB Q) (A8 ["script","k"] vs) H:=by
 obtain⟨s,ns,k,rfl,hs,hl,q⟩:=h
 push_cast[QR,↓rF,↓rG,↓rH]
 refine⟨ns.length,?_,?_⟩
 ·exact .inl ⟨_,hs,(List.length_map _).symm⟩
 split
 ·rename_i hk
  have hk:k<ns.length:=by omega
  refine A7 hs rfl (v:=.int (G9 ns k)) ?_ q
  unfold G9
  rw[List.getElem?_map,List.getElem?_eq_getElem hk]
  simp[List.getD,hk]
 ·rename_i hk
  have:G9 ns k=0:=by
   unfold G9
   rw[List.getD_eq_getElem?_getD,List.getElem?_eq_none (by omega)];rfl
  rw[this]at q
  exact q
theorem wT(h:CO K a vs H Q E):vs.length=3:=by
 obtain⟨_,_,_,rfl,_⟩:=h
 rfl
theorem wU(h:HA K a vs H Q E):vs.length=2:=by
 obtain⟨_,_,_,rfl,_⟩:=h
 rfl
theorem EA{f:Str}{v:V}{fs:List (Str × V)}{n:Nat}(h:fs.length<n):(A0 f v fs).length<n+1:=Nat.lt_of_le_of_lt (MB f v fs) (Nat.succ_lt_succ h)
theorem SameBut.none{b:Addr}{H H1:Hp}{x:Addr}(s:SameBut (· =b) H H1)(hb:H1 b≠Option.none)(h:H1 x=Option.none):H x=Option.none:=by
 cases e:H x with
 | none=>rfl
 | some o =>
  have:x≠b:=λz=>hb (z ▸ h)
  rw[s _ _ e this]at h
  cases h
theorem wV(h:K2 K a vs H Q E):PY K a (λ_=>E) (BB Q) (A8 ["self","place","value","needs"] vs) H:=by
 obtain⟨x,dx,pl,v,nt,rfl,T,hx,q⟩:=h
 push_cast[PY,↓qQ,↓qR,↓qS]
 refine⟨_,_,_,hx,T.cc,T.nP,by decide,_,_,_,AK,T.cc,T.nV,EA (n:=999) (by decide),_,_,_,AK,T.cc,T.nN,EA (n:=999) (EA (n:=998) (by decide)),?_⟩
 rw[qE,F6,F6]
 exact q
theorem wW(h:K2 K a vs H Q E):vs.length=4:=by
 obtain⟨_,_,_,_,_,rfl,_⟩:=h
 rfl
theorem wX(h:FD K a vs H Q E):QV K a (λ_=>E) (BB Q) (A8 ["self","plank"] vs) H:=by
 obtain⟨b,gp,cl,dx,w,rows,n,rfl,T,TP,P,hb,q⟩:=h
 push_cast[QV,↓rX,↓rY,↓rZ,↓r8,↓sB]
 refine⟨_,_,_,hb,T.cl,T.nG,by decide,by decide,?_⟩
 have e1:upd H b (.ins (DD a) dx (A0 "ground" (.ref gp) [])) b=some (.ins (DD a) dx (A0 "ground" (.ref gp) [])):=AK
 have s1:SameBut (· =b) H (upd H b (.ins (DD a) dx (A0 "ground" (.ref gp) []))):=λx o e n=>by rw[AH n];exact e
 revert e1 s1
 generalize upd H b (.ins (DD a) dx (A0 "ground" (.ref gp) []))=H1
 intro e1 s1 m hm
 have nbm:b≠m:=AY e1 hm
 have hmH:=s1.none (by rw[e1];intro z;cases z) hm
 refine⟨_,_,_,by rw[AH nbm];exact e1,T.cl,T.nM,EA (n:=999) (by decide),?_⟩
 have s2:SameBut (· =b) H (upd (upd H1 m (.lst [])) b (.ins (DD a) dx (A0 "made" (.ref m) (A0 "ground" (.ref gp) [])))):=(s1.upd (.inr hmH)).upd (.inl rfl)
 have e2:upd (upd H1 m (.lst [])) b (.ins (DD a) dx (A0 "made" (.ref m) (A0 "ground" (.ref gp) []))) b=some (.ins (DD a) dx (A0 "made" (.ref m) (A0 "ground" (.ref gp) []))):=AK
 have m2:upd (upd H1 m (.lst [])) b (.ins (DD a) dx (A0 "made" (.ref m) (A0 "ground" (.ref gp) []))) m=some (.lst []):=by rw[AH nbm.symm,AK]
 revert s2 e2 m2
 generalize upd (upd H1 m (.lst [])) b (.ins (DD a) dx (A0 "made" (.ref m) (A0 "ground" (.ref gp) [])))=H2
 intro s2 e2 m2
 have gb:∀ x xs,(· =b) x->H x≠some (.tup xs):=λx xs e=>by rw[show x=b from e,hb];intro z;cases z
 have ncl:¬ cl=b:=by obtain⟨ts,z,_⟩:=P.ls;exact A6 z hb (by intro z;cases z)
 have P2:PlankAt a H2 gp cl w rows n:=by
  obtain⟨⟨dx',f1⟩,⟨ts,f2,f3⟩,r1,r2,r3⟩:=P
  exact⟨⟨dx',s2 _ _ f1 (A6 f1 hb (M6 (by simp[pf])))⟩,⟨ts,s2 _ _ f2 (A6 f2 hb (by intro z;cases z)),Paired.mapP f3 λt r z=>s2 _ _ z (A6 z hb (by intro z;cases z))⟩,r1,r2,r3⟩
 obtain⟨dp,hp⟩:=P2.ob
 refine⟨_,_,hp,G5 _ _ _ (by decide +kernel) (by decide +kernel) (by decide +kernel),gp,cl,w,rows,n,rfl,TP,P2,rows.length,rfl,by omega,by have:=P.sz;omega,?_⟩
 rw[Int.toNat_natCast]
 refine OS (G3 _ (by have:=P.sz;omega)) (λi ys H'=>Same H2 H'/\∃ ls:List Addr,ys=ls.map V.ref/\ls.Nodup/\∀ l∈ls,H' l=some (.lst [])/\H2 l=none) ⟨Same.refl _,[],rfl,List.nodup_nil,by simp⟩ (λi ys H' hi hl ⟨s,ls,ey,nd,al⟩=> ?_) (λys H' hl ⟨s,ls,ey,nd,al⟩ mi hmi=> ?_)
 ·push_cast[]
  refine⟨by decide,λl hl'=>⟨s.trans (AW hl'),ls++[l],by rw[ey,List.map_append];rfl,?_,λx hx=> ?_⟩⟩
  ·exact List.nodup_append.mpr ⟨nd,by simp,λx hx y hy e=>by rw[List.mem_singleton]at hy;subst hy;subst e;rw[(al _ hx).1]at hl';cases hl'⟩
  ·rcases List.mem_append.mp hx with hx | hx
   ·exact⟨AW hl' _ _ (al x hx).1,(al x hx).2⟩
   ·rw[List.mem_singleton.mp hx];exact⟨AK,s.free hl'⟩
 ·have s3:SameBut (· =b) H (upd H' mi (.lst ys)):=by
   intro x o e nx
   have e':=s _ _ (s2 _ _ e nx)
   rw[AH (AY e' hmi)];exact e'
  have e3:upd H' mi (.lst ys) b=some (.ins (DD a) dx (A0 "made" (.ref m) (A0 "ground" (.ref gp) []))):=by rw[AH (AY (s _ _ e2) hmi)];exact s _ _ e2
  have m3:upd H' mi (.lst ys) m=some (.lst []):=by rw[AH (AY (s _ _ m2) hmi)];exact s _ _ m2
  have i3:upd H' mi (.lst ys) mi=some (.lst (ls.map V.ref)):=by rw[AK,ey]
  have l3:∀ l∈ls,upd H' mi (.lst ys) l=some (.lst [])/\H l=none/\l≠mi/\l≠m:=λl hl'=>by
   have z:=al l hl'
   have n1:=AY z.1 hmi
   exact⟨by rw[AH n1];exact z.1,s2.none (by rw[e2];intro z;cases z) z.2,n1,λy=>by rw[y,m2]at z;cases z.2⟩
  have hmiH:H mi=none:=s2.none (by rw[e2];intro z;cases z) (s.free hmi)
  have nmm:m≠mi:=AY (s _ _ m2) hmi
  have hlen:ls.length=rows.length:=by rw[<-hl,ey,List.length_map]
  revert s3 e3 m3 i3 l3
  generalize upd H' mi (.lst ys)=H3
  intro s3 e3 m3 i3 l3
  refine⟨_,_,_,e3,T.cl,T.nI,EA (n:=999) (EA (n:=998) (by decide)),λlt hlt=> ?_⟩
  have nb4:b≠lt:=AY AK hlt
  rw[AH nb4.symm]at hlt
  have ltH:H lt=none:=s3.none (by rw[e3];intro z;cases z) hlt
  refine⟨_,_,_,by rw[AH nb4,AK],T.cl,T.nL,EA (n:=999) (EA (n:=998) (EA (n:=997) (by decide))),λou hou=> ?_⟩
  have nb5:b≠ou:=AY AK hou
  rw[AH nb5.symm]at hou
  have nl5:lt≠ou:=AY AK hou
  rw[AH nl5.symm,AH nb5.symm]at hou
  have ouH:H ou=none:=s3.none (by rw[e3];intro z;cases z) hou
  refine⟨_,_,_,by rw[AH nb5,AK],T.cl,T.nO,EA (n:=999) (EA (n:=998) (EA (n:=997) (EA (n:=996) (by decide)))),?_⟩
  rw[qF]
  generalize eH:upd (upd (upd (upd (upd H3 b _) lt (.dT [])) b _) ou (.dK [])) b (.ins (DD a) dx (bf gp m mi lt ou))=H5
  have kp:∀ x,x≠b->x≠lt->x≠ou->H5 x=H3 x:=λx n1 n2 n3=>by rw[<-eH,AH n1,AH n3,AH n1,AH n2,AH n1]
  have kk:∀ x o,H3 x=some o->x≠b->H5 x=some o:=λx o e n1=>by rw[kp x n1 (AY e hlt) (AY e hou)];exact e
  have s5:SameBut (· =b) H H5:=λx o e n1=>kk x o (s3 _ _ e n1) n1
  have nbx:∀ x xs,H3 x=some (.lst xs)->x≠b:=λx xs e=>A6 e e3 (by intro z;cases z)
  refine q m mi lt ou ls H5 hmH hmiH ltH ouH (λl hl'=>(l3 l hl').2.1) ⟨⟨⟨dx,by rw[<-eH,AK]⟩,⟨[],kk _ _ m3 (nbx _ _ m3),.nil⟩,kk _ _ i3 (nbx _ _ i3),λi l e=> ?_,nd,⟨[],?_,λi j=>rfl,Nat.le_refl _⟩,⟨[],?_,λk=>rfl,List.nodup_nil,by simp⟩,by simp,by simp,by simp,⟨nmm,?_,?_,?_,?_,?_⟩,by simp⟩,?_,hlen⟩ s5
  ·have z:=l3 l (List.mem_of_getElem? e)
   exact kk _ _ z.1 (nbx _ _ z.1)
  ·rw[<-eH,AH nb4.symm,AH nl5,AH nb4.symm,AK]
  ·rw[<-eH,AH nb5.symm,AK]
  ·exact λz=>(l3 _ z).2.2.2 rfl
  ·exact λz=>(l3 _ z).2.2.1 rfl
  ·obtain⟨ts,z,_⟩:=P.ls;exact AY z hmH
  ·obtain⟨ts,z,_⟩:=P.ls;exact AY z hmiH
  ·obtain⟨ts,z,_⟩:=P.ls;exact λy=>by rw[(l3 _ y).2.1]at z;cases z
  ·obtain⟨⟨dx',f1⟩,⟨ts,f2,f3⟩,r1,r2,r3⟩:=P
   exact⟨⟨dx',s5 _ _ f1 (A6 f1 hb (M6 (by simp[pf])))⟩,⟨ts,s5 _ _ f2 (A6 f2 hb (by intro z;cases z)),Paired.mapP f3 λt r z=>s5 _ _ z (A6 z hb (by intro z;cases z))⟩,r1,r2,r3⟩
theorem wY(h:FD K a vs H Q E):vs.length=2:=by
 obtain⟨_,_,_,_,_,_,_,rfl,_⟩:=h
 rfl
theorem wZ(h:K3 K a vs H Q E):NA K a (λ_=>E) (BB Q) (A8 ["needs","ahead"] vs) H:=by
 obtain⟨nl,ns,o,rfl,hs,hl,q⟩:=h
 cases o with
 | none =>
  push_cast[NA,↓XH,↓XJ,↓XM,K1]
  refine⟨ns,hs,by omega,λx o D ks hx hD r m l=>⟨_,.inl ⟨SqL.of AK,λt ht=>q t ks _ (((AW hx).trans (AW hD)).trans (AW ht)) AK r (λy=> ?_) (by omega)⟩⟩⟩
  rw[m y];simp
 | some k =>
  push_cast[NA,↓XH,↓XJ,↓XM,K1]
  refine⟨_,.inl hs,λl hl'=>⟨by decide,λp hp=>.inl ?_⟩⟩
  have np:l≠p:=AY AK hp
  have s0:Same H (upd (upd H l (.lst (ns.map V.int))) p (.lst [.int k])):=(AW hl').trans (AW hp)
  have e1:upd (upd H l (.lst (ns.map V.int))) p (.lst [.int k]) l=some (.lst (ns.map V.int)):=by rw[AH np,AK]
  have e2:upd (upd H l (.lst (ns.map V.int))) p (.lst [.int k]) p=some (.lst [.int k]):=AK
  revert s0 e1 e2
  generalize upd (upd H l (.lst (ns.map V.int))) p (.lst [.int k])=H1
  intro s0 e1 e2
  refine⟨l,p,_,_,rfl,rfl,e1,e2,G3 _ (by simp;omega),λr hr=>⟨r,rfl,ns++[(k:Int)],?_,by simp;omega,λx o D ks hx hD rs m ll=>⟨_,.inl ⟨SqL.of AK,λt ht=>q t ks _ ((((s0.trans (AW hr)).trans (AW hx)).trans (AW hD)).trans (AW ht)) AK rs (λy=> ?_) (by simpa using ll)⟩⟩⟩⟩
  ·rw[List.map_append];exact SqL.of AK
  ·rw[m y,List.mem_append,List.mem_singleton];simp
theorem w5(h:K3 K a vs H Q E):vs.length=2:=by
 obtain⟨_,_,_,rfl,_⟩:=h
 rfl
theorem w6(h:K4 K a vs H Q E):QY K a (λ_=>E) (BB Q) (A8 ["self","place"] vs) H:=by
 obtain⟨A,w,rows,n,cs,outs,pl,i,j,rfl,T,TP,B,hp,q,qe⟩:=h
 obtain⟨dx,hb⟩:=B.bk.ob
 obtain⟨dp,hg⟩:=B.pk.ob
 have ng:∀ {m:Str},¬ m="contents"->¬ m="width"->¬ m="written"->(pf A.cl w n).lookup m=none:=λh1 h2 h3=>G5 _ _ _ h1 h2 h3
 push_cast[QY,↓sF,↓sG]
 refine CI hp (n:=0) rfl rfl ?_
 push_cast[]
 split
 ·rename_i h0
  refine⟨_,_,_,hb,T.cl,T.nG,_,KZ,A.gp,rfl,_,_,hg,ng (by decide +kernel) (by decide +kernel) (by decide +kernel),A.gp,A.cl,w,rows,n,rfl,TP,B.pk,?_⟩
  push_cast[]
  split
  ·exact⟨by decide,qe λz=>by omega⟩
  ·rename_i h1
   refine CI hp (n:=1) rfl rfl ?_
   push_cast[]
   split
   ·rename_i h2
    refine⟨_,_,_,hb,T.cl,T.nG,_,KZ,A.gp,rfl,_,_,hg,ng (by decide +kernel) (by decide +kernel) (by decide +kernel),A.gp,A.cl,w,rows,n,rfl,TP,B.pk,?_⟩
    push_cast[]
    split
    ·exact⟨by decide,qe λz=>by omega⟩
    ·exact q ⟨h0,by omega,h2,by omega⟩
   ·exact⟨by decide,qe λz=>by omega⟩
 ·exact⟨by decide,qe λz=>by omega⟩
theorem w8(h:K4 K a vs H Q E):vs.length=2:=by
 obtain⟨_,_,_,_,_,_,_,_,_,rfl,_⟩:=h
 rfl
theorem w9(h:HB K a vs H Q E):RO K a (λ_=>E) (BB Q) (A8 ["self","place"] vs) H:=by
 obtain⟨A,w,rows,n,cs,outs,pl,i,j,rfl,T,TP,B,hp,q,qe⟩:=h
 obtain⟨dx,hb⟩:=B.bk.ob
 obtain⟨kvs,hl,hv,_⟩:=B.bk.lat
 push_cast[RO,↓sU,↓sV]
 refine⟨_,_,hb,B0 (by decide +kernel),A,w,rows,n,cs,outs,pl,i,j,rfl,T,TP,B,hp,λh=> ?_,qe⟩
 push_cast[]
 refine⟨_,_,_,hb,T.cl,T.nL,_,WP,A.lt,rfl,.inr ⟨_,.inl hl⟩,_,O3 hl hp,?_⟩
 rw[hv]
 have:=q h
 cases e:D0 cs i j with
 | none=>rw[e]at this;exact this
 | some k=>rw[e]at this;exact this
theorem xA(h:HB K a vs H Q E):vs.length=2:=by
 obtain⟨_,_,_,_,_,_,_,_,_,rfl,_⟩:=h
 rfl
theorem BookIn.len{C D:Addr}{A:BA}{w:Nat}{cs:List Ch}{outs:Int->Bool}(B:BookIn C D H A w cs outs):∃ xs,H A.m=some (.lst xs)/\xs.length=cs.length:=by
 obtain⟨chs,e,p⟩:=B.made
 exact⟨_,e,by rw[List.length_map,p.length]⟩
theorem xB(h:HC K a vs H Q E):P4 K a (λ_=>E) (BB Q) (A8 ["self","numbers","number"] vs) H:=by
 obtain⟨A,w,rows,n,cs,outs,nl,ns,rfl,T,B,hs,q,qe⟩:=h
 obtain⟨dx,hb⟩:=B.bk.ob
 obtain⟨xs,hm,hml⟩:=B.bk.len
 push_cast[P4,↓XA,↓XC,↓XF]
 refine .inl ⟨⟨_,hs⟩,?_⟩
 refine E9 (xs:=ns.map V.int) (λi σ H'=>H'=H/\(∃ z,σ=[some (.ref A.b),some (.ref nl),z])/\∀ x∈ns.take i,known cs x) ⟨rfl,⟨_,rfl⟩,by simp⟩ (λi σ H' _ ⟨e,_⟩=>e ▸ hs) (λi x σ H' hx ⟨e,⟨z,ez⟩,kn⟩=> ?_) (λσ H' ⟨e,⟨z,ez⟩,kn⟩=> ?_)
 ·subst e;subst ez
  rw[List.getElem?_map,Option.map_eq_some_iff]at hx
  obtain⟨x',hx',rfl⟩:=hx
  push_cast[↓XA,↓XC,↓XF]
  have bad:¬ known cs x'->1<=sizeLine/\E (.ref (a "NoChange")) none H':=λh=>⟨by decide,qe ⟨x',List.mem_of_getElem? hx',h⟩⟩
  split
  ·rename_i h0
   refine⟨_,_,_,hb,T.cl,T.nM,_,FW,cs.length,.inl ⟨_,SqL.of hm,hml.symm⟩,?_⟩
   split
   ·exact bad λz=>by omega
   ·intro y hy
    rw[List.take_add_one,hx']at hy
    rcases List.mem_append.mp hy with hy | hy
    ·exact kn y hy
    ·simp only[Option.toList_some,List.mem_singleton]at hy
     subst hy
     exact⟨h0,by omega⟩
  ·exact bad λz=>by omega
 ·subst e
  refine q λx hx=>kn x ?_
  rw[List.length_map,List.take_length];exact hx
theorem xC(h:HC K a vs H Q E):vs.length=2:=by
 obtain⟨_,_,_,_,_,_,_,_,rfl,_⟩:=h
 rfl
theorem xD(h:C9 K a vs H Q E):PZ K a (λ_=>E) (BB Q) (A8 ["self"] vs) H:=by
 obtain⟨A,w,rows,n,cs,outs,rfl,T,B,q⟩:=h
 obtain⟨dx,hb⟩:=B.bk.ob
 obtain⟨xs,hm,hml⟩:=B.bk.len
 obtain⟨kvo,ho,hv,_⟩:=B.bk.out
 have sz:=B.bk.sz
 push_cast[PZ,↓qT]
 refine⟨_,_,_,hb,T.cl,T.nM,_,FW,cs.length,.inl ⟨_,SqL.of hm,hml.symm⟩,by omega,by omega,?_⟩
 refine o7 (λ(k:Nat)=> !outs k) (G3 _ (by omega)) (λi hi QB qb=> ?_) λp hp=> ?_
 ·push_cast[E8]
  refine⟨_,_,_,hb,T.cl,T.nO,_,K0,A.ou,rfl,_,dI ho,?_⟩
  rw[hv];exact qb
 ·exact q p _ hp (AW hp) (by rw[AK];rfl)
theorem xE(h:C9 K a vs H Q E):vs.length=1:=by
 obtain⟨_,_,_,_,_,_,rfl,_⟩:=h
 rfl
theorem xF(h:EW K a vs H Q E):RS K a (λ_=>E) (BB Q) (A8 ["self","place","value","needs","ahead","number"] vs) H:=by
 obtain⟨A,w,rows,n,cs,outs,pl,nl,v,ns,i,j,rfl,T,TP,B,hp,hs,hl,hc,q,q1,q2⟩:=h
 obtain⟨dx,hb⟩:=B.bk.ob
 obtain⟨xs,hm,hml⟩:=B.bk.len
 push_cast[RS,↓tK]
 refine⟨_,_,hb,B0 (by decide +kernel),A,w,rows,n,cs,outs,pl,i,j,rfl,T,TP,B,hp,λhon=> ?_,q1⟩
 push_cast[↓tM]
 refine⟨_,_,hb,B0 (by decide +kernel),A,w,rows,n,cs,outs,nl,ns,rfl,T,B,hs,λhkn=> ?_,q2 hon⟩
 push_cast[↓tN]
 refine⟨_,_,_,hb,T.cl,T.nM,_,FW,cs.length,.inl ⟨_,SqL.of hm,hml.symm⟩,?_⟩
 push_cast[↓tO]
 refine⟨_,_,_,hb,T.cl,T.nM,_,FW,.inl ⟨rfl,_,SqL.of hm⟩,nl,ns,D0 cs i j,rfl,hs,hl,λt ks H1 s1 et kr km kl=> ?_⟩
 push_cast[]
 intro x dy hx hdy ndy
 refine⟨x,dy,pl,v,t,rfl,T,AK,rfl,?_⟩
 rw[F6]
 have s2:Same H1 (upd (upd H1 dy (.own x)) x (.ins (a "Change") dy (DQ pl v t))):=(AW hdy).trans (AW (by rw[AH ndy.symm];exact hx))
 have ex:upd (upd H1 dy (.own x)) x (.ins (a "Change") dy (DQ pl v t)) x=some (.ins (a "Change") dy (DQ pl v t)):=AK
 revert s2 ex
 generalize upd (upd H1 dy (.own x)) x (.ins (a "Change") dy (DQ pl v t))=H2
 intro s2 ex
 have s:=s1.trans s2
 have hxH:H x=none:=s1.free hx
 replace et:=s2 _ _ et
 obtain⟨chs,hm',pch⟩:=B.bk.made
 have hmi:=B.bk.mil
 obtain⟨kvs,hlt,hv,hkl⟩:=B.bk.lat
 obtain⟨kvo,hou,hvo,hko⟩:=B.bk.out
 obtain⟨i0,i1,j0,j1⟩:=hon
 obtain⟨i',rfl⟩:∃ i':Nat,i=i':=⟨i.toNat,by omega⟩
 obtain⟨j',rfl⟩:∃ j':Nat,j=j':=⟨j.toNat,by omega⟩
 have hil:i'<A.ls.length:=by rw[B.nb];omega
 have el:=List.getElem?_eq_getElem hil
 have hll:=B.bk.mic i' _ el
 have hmem:A.ls[i']∈A.ls:=List.getElem_mem hil
 revert el hll hmem
 generalize A.ls[i']=l
 intro el hll hmem
 have ap:=B.bk.ap
 have nml:A.m≠l:=λz=>ap.2.1 (z ▸ hmem)
 have nil':A.mi≠l:=λz=>ap.2.2.1 (z ▸ hmem)
 have ncl:A.cl≠l:=λz=>ap.2.2.2.2.2 (z ▸ hmem)
 have klt:∀ {y:Addr} {o:HO},H2 y=some o->(∀ k,o≠.dT k)->y≠A.lt:=λe h=>A6 e (s _ _ hlt) (h _)
 have km':∀ {y:Addr} {o:HO},H2 y=some o->(∀ k,o≠.lst k)->y≠A.m:=λe h=>A6 e (s _ _ hm') (h _)
 have kll:∀ {y:Addr} {o:HO},H2 y=some o->(∀ k,o≠.lst k)->y≠l:=λe h=>A6 e (s _ _ hll) (h _)
 have hb2:=s _ _ hb
 have hp2:=s _ _ hp
 have sz:=B.bk.sz
 have lenc:chs.length=cs.length:=pch.length
 refine⟨A.m,_,_,rfl,rfl,s _ _ hm',Nat.lt_of_lt_of_le (show(chs.map V.ref).length<1000 by rw[List.length_map];omega) (by decide),?_⟩
 push_cast[↓tP]
 have bb:A.b≠A.m:=km' hb2 (by intro k z;cases z)
 have bl:A.b≠l:=kll hb2 (by intro k z;cases z)
 have bt:A.b≠A.lt:=klt hb2 (by intro k z;cases z)
 have pm:pl≠A.m:=km' hp2 (by intro k z;cases z)
 have pl':pl≠l:=kll hp2 (by intro k z;cases z)
 have pt:pl≠A.lt:=klt hp2 (by intro k z;cases z)
 have lt':l≠A.lt:=klt (s _ _ hll) (by intro k z;cases z)
 have mt:A.m≠A.lt:=klt (s _ _ hm') (by intro k z;cases z)
 have it:A.mi≠A.lt:=klt (s _ _ hmi) (by intro k z;cases z)
 refine⟨_,_,_,by rw[AH bb];exact hb2,T.cl,T.nI,_,PH,CI (by rw[AH pm];exact hp2) (n:=0) rfl rfl (A7 (SqL.of (by rw[AH ap.1.symm];exact s _ _ hmi)) (n:=i') (v:=.ref l) rfl (by rw[List.getElem?_map,el];rfl) ⟨.inl ⟨rfl,_,SqL.of (by rw[AH nml.symm];exact s _ _ hll)⟩,?_⟩)⟩
 have bln:=WM cs i'
 refine⟨l,_,_,rfl,rfl,by rw[AH nml.symm];exact s _ _ hll,Nat.lt_of_lt_of_le (show((CH cs i').map λ(k:Nat)=>V.int k).length<1000 by rw[List.length_map];omega) (by decide),?_⟩
 push_cast[↓tQ,↓tR]
 refine⟨_,_,_,by rw[AH bl,AH bb];exact hb2,T.cl,T.nL,_,WP,A.lt,rfl,_,WA (by rw[AH lt'.symm,AH mt.symm];exact s _ _ hlt) (by rw[AH pl',AH pm];exact hp2) (by omega),?_⟩
 generalize eH:upd (upd (upd H2 A.m _) l _) A.lt (.dT (CA kvs [.inl ↑i',.inl ↑j'] (.int ↑cs.length)))=H5
 have kp:∀ y,y≠A.m->y≠l->y≠A.lt->H5 y=H2 y:=λy n1 n2 n3=>by rw[<-eH,AH n3,AH n2,AH n1]
 have s5:SameBut (λy=>y=A.m\/y=l\/y=A.lt) H H5:=λy o e ny=>by
  rw[kp y (λz=>ny (.inl z)) (λz=>ny (.inr (.inl z))) (λz=>ny (.inr (.inr z)))]
  exact s _ _ e
 have lo:∀ y,(y=A.m\/y=l\/y=A.lt)->EL (H y):=by
  rintro y (z | z | z)
  ·exact B.loose (.inl z)
  ·exact B.loose (.inr (.inr (.inl (z ▸ hmem))))
  ·exact B.loose (.inr (.inr (.inr (.inl z))))
 have hnd:∀ y∈ks,0<=y/\y<cs.length:=λy hy=>by
  rcases(km y).mp hy with h | ⟨k,e,rfl⟩
  ·exact hkn y h
  ·exact⟨by omega,by have:=qC e;omega⟩
 refine q ⟨i0,i1,j0,j1⟩ hkn ks H5 kr km ⟨⟨⟨dx,by rw[kp _ bb bl bt];exact hb2⟩,⟨chs++[x],?_,Paired.snoc (Paired.mapP pch λy c h=>h.sb s5 lo) ⟨dy,pl,t,?_,?_,?_⟩⟩,?_,λk l' e=> ?_,B.bk.nd,⟨CA kvs [.inl ↑i',.inl ↑j'] (.int ↑cs.length),?_,λp q=> ?_,?_⟩,⟨kvo,?_,hvo,?_⟩,?_,λc hc'=> ?_,λk c e=> ?_,ap,λk c e j ej=> ?_⟩,B.pk.sbL s5 lo ?_,B.nb⟩ (s5.wide λy z=> ?_)
 ·rw[<-eH,AH mt,AH nml,AK,List.map_append];rfl
 ·rw[kp x (km' ex (by intro k z;cases z)) (kll ex (by intro k z;cases z)) (klt ex (by intro k z;cases z))];exact ex
 ·rw[kp pl pm pl' pt];exact hp2
 ·rw[kp t (km' et (by intro k z;cases z)) (kll et (by intro k z;cases z)) (klt et (by intro k z;cases z))];exact et
 ·rw[kp _ ap.1.symm nil' it];exact s _ _ hmi
 ·rw[qB]
  by_cases z:l'=l
  ·subst z
   have ek:k=i':=by
    obtain⟨h1,h2⟩:=List.getElem?_eq_some_iff.mp e
    obtain⟨h3,h4⟩:=List.getElem?_eq_some_iff.mp el
    exact(List.getElem_inj B.bk.nd).mp (h2.trans h4.symm)
   subst ek
   rw[<-eH,AH lt',AK]
   simp
  ·have nk:¬ i'=k:=λy=>by subst y;rw[el]at e;cases e;exact z rfl
   have hl':=B.bk.mic k l' e
   rw[kp l' (λy=>ap.2.1 (y ▸ List.mem_of_getElem? e)) z (klt (s _ _ hl') (by intro k z;cases z))]
   simp only[Int.toNat_natCast,if_neg nk]
   exact s _ _ hl'
 ·rw[<-eH,AK]
 ·rw[OC,WK]
  by_cases z:p=i'/\q=j'
  ·obtain⟨rfl,rfl⟩:=z
   simp
  ·have z1:¬ ([Sum.inl p,Sum.inl q]:List AS)=[.inl ↑i',.inl ↑j']:=λy=>z (by simpa using y)
   have z2:¬ ((((i':Int).toNat:Nat):Int)=p/\(((j':Int).toNat:Nat):Int)=q):=λy=>z ⟨by omega,by omega⟩
   rw[if_neg z1,if_neg z2]
   exact hv p q
 ·have:=IC kvs [.inl ↑i',.inl ↑j'] (.int ↑cs.length)
  simp;omega
 ·rw[kp _ (km' (s _ _ hou) (by intro k z;cases z)) (kll (s _ _ hou) (by intro k z;cases z)) (klt (s _ _ hou) (by intro k z;cases z))];exact s _ _ hou
 ·exact hko.mono (by simp)
 ·simp;omega
 ·rcases List.mem_append.mp hc' with h | h
  ·exact B.bk.inn c h
  ·rw[List.mem_singleton.mp h]
   exact⟨by rw[Int.toNat_natCast];exact hil,(show(j':Int).toNat<w by omega)⟩
 ·rcases Nat.lt_or_ge k cs.length with h | h
  ·rw[List.getElem?_append_left h]at e
   exact B.bk.need k c e
  ·rw[List.getElem?_append_right h]at e
   have:k - cs.length=0:=by
    rcases Nat.eq_zero_or_pos (k - cs.length)with z | z
    ·exact z
    ·rw[List.getElem?_eq_none (by simp;omega)]at e;cases e
   rw[this]at e
   cases e
   exact⟨λy hy=>⟨(hnd y hy).1,by have:=(hnd y hy).2;omega⟩,kr,(show ks.length<=100 by omega)⟩
 ·rcases Nat.lt_or_ge k cs.length with h | h
  ·rw[List.getElem?_append_left h]at e
   rw[List.take_append_of_le_length (by omega)]at ej
   exact B.bk.chn k c e j ej
  ·rw[List.getElem?_append_right h]at e
   have:k - cs.length=0:=by
    rcases Nat.eq_zero_or_pos (k - cs.length)with z | z
    ·exact z
    ·rw[List.getElem?_eq_none (by simp;omega)]at e;cases e
   have hk:k=cs.length:=by omega
   subst hk
   rw[this]at e
   cases e
   rw[List.take_left' rfl]at ej
   exact(km _).mpr (.inr ⟨j,by simpa using ej,rfl⟩)
 ·rintro (z | z | z)
  ·exact ap.2.2.2.1 z
  ·exact ncl z
  ·obtain⟨ts,e,_⟩:=B.pk.ls
   exact klt (s _ _ e) (by intro k z;cases z) z
 ·rcases z with z | z | z
  ·exact .inl z
  ·exact .inr (.inr (.inl (z ▸ hmem)))
  ·exact .inr (.inr (.inr (.inl z)))
theorem xG(h:EW K a vs H Q E):vs.length=4:=by
 obtain⟨_,_,_,_,_,_,_,_,_,_,_,_,rfl,_⟩:=h
 rfl
theorem BookIn.at{C D:Addr}{A:BA}{w:Nat}{cs:List Ch}{outs:Int->Bool}{H:Hp}(B:BookIn C D H A w cs outs){k:Nat}{c:Ch}(e:cs[k]? =some c):∃ xs x,H A.m=some (.lst xs)/\xs[k]? =some (.ref x)/\ChAt D H x c:=by
 obtain⟨chs,h,p⟩:=B.made
 obtain⟨x,ex,hx⟩:=MT p e
 exact⟨_,x,h,by rw[List.getElem?_map,ex];rfl,hx⟩
theorem IY{n:Nat}{outs:Int->Bool}{k:Nat}(h:k∈AX n outs):k<n/\outs k=false:=by
 have:=List.mem_filter.mp h
 exact⟨List.mem_range.mp this.1,by simpa using this.2⟩
theorem cG(n:Nat)(outs:Int->Bool):(AX n outs).Pairwise (· <·):=List.pairwise_lt_range.filter _
theorem cH(n:Nat)(outs:Int->Bool):(AX n outs).length<=n:=by
 have:=List.length_filter_le (λ(k:Nat)=> !outs k) (List.range n)
 rwa [List.length_range]at this
theorem cI(l:List Nat):BI l=(l.map λ(k:Nat)=>(k:Int)).map V.int:=by simp[BI]
theorem SA{n:Nat}{outs:Int->Bool}{k:Nat}(h:k<n)(ho:outs k=false):k∈AX n outs:=List.mem_filter.mpr ⟨List.mem_range.mpr h,by rw[ho];rfl⟩
theorem NJ{m0 w:Nat}{H1:Hp}{Q:Addr->Hp->Prop}{E:XK}(TP:C7 K a)(h1:m0<=1000)(h2:1<=w)(h3:w<=1000)
  (q:∀ p cl H2,H1 p=none->H1 cl=none->PlankAt a H2 p cl w (List.replicate m0 (List.replicate w .non)) 0->Same H1 H2->Q p H2) :
  ∀ x dx,H1 x=none->H1 dx=none->dx≠x->FB K a [.ref x,.int m0,.int w] (upd (upd H1 dx (.own x)) x (.ins (a "Plank") dx [])) (λv H2=>v=.non/\Q x H2) E:=λp dp hp hdp ndp=>by
 refine⟨p,dp,m0,w,rfl,TP,AK,h1,h2,h3,λcl H2 hcl P2 sb2=>⟨rfl,q p cl H2 hp ?_ P2 λy o e=> ?_⟩⟩
 ·have:=(AW (o:=.own p) hdp).trans (AW (o:=.ins (a "Plank") dp []) (by rw[AH ndp.symm];exact hp))
  exact this.free hcl
 ·exact sb2 _ _ (by rw[AH (AY e hp),AH (AY e hdp)];exact e) (AY e hp)
theorem NK{w n:Nat}{rows:List (List V)}{gp cl:Addr}{H1:Hp}{Q:Addr->Hp->Prop}{E:XK}(T:TB K a)(TP:C7 K a)(P:PlankAt a H1 gp cl w rows n)
  (q:∀ (A:BA) (H2:Hp),A.gp=gp->A.cl=cl->(∀ x o,H1 x=some o->x=cl\/¬ A.F x)->A1 a H2 A w rows n [] (λ_=>false)->Same H1 H2->Q A.b H2) :
  ∀ x dx,H1 x=none->H1 dx=none->dx≠x->FD K a [.ref x,.ref gp] (upd (upd H1 dx (.own x)) x (.ins (DD a) dx [])) (λv H2=>v=.non/\Q x H2) E:=λb db hb hdb ndb=>by
 have s0:Same H1 (upd (upd H1 db (.own b)) b (.ins (DD a) db [])):=(AW hdb).trans (AW (by rw[AH ndb.symm];exact hb))
 refine⟨b,gp,cl,db,w,rows,n,rfl,T,TP,P.same s0,AK,λm mi lt ou ls H4 hm hmi hlt hou hls B4 sb4=>⟨rfl,?_⟩⟩
 refine q ⟨b,gp,m,mi,lt,ou,ls,cl⟩ H4 rfl rfl (λx o e=> ?_) B4 λy o e=>sb4 _ _ (s0 _ _ e) (AY e hb)
 by_cases z:x=cl
 ·exact .inl z
 ·refine .inr ?_
  have e':=s0 _ _ e
  rintro (y | y | y | y | y | y)
  ·rw[y]at e';rw[show(BA.mk b gp m mi lt ou ls cl).m=m from rfl,hm]at e';cases e'
  ·rw[y]at e';rw[show(BA.mk b gp m mi lt ou ls cl).mi=mi from rfl,hmi]at e';cases e'
  ·rw[hls x y]at e';cases e'
  ·rw[y]at e';rw[show(BA.mk b gp m mi lt ou ls cl).lt=lt from rfl,hlt]at e';cases e'
  ·rw[y]at e';rw[show(BA.mk b gp m mi lt ou ls cl).ou=ou from rfl,hou]at e';cases e'
  ·exact z y
theorem xH(h:K5 K a vs H Q E):QD K a (λ_=>E) (BB Q) (A8 ["self","number","gone","need"] vs) H:=by
 obtain⟨A,w,rows,n,cs,outs,k,c,g,kvg,rfl,T,B,ec,hg,q⟩:=h
 obtain⟨dx,hb⟩:=B.bk.ob
 obtain⟨xs,cx,hm,ex,hch⟩:=B.bk.at ec
 obtain⟨dc,pl,nt,hc1,hc2,hc3⟩:=hch
 obtain⟨kvo,ho,hv,_⟩:=B.bk.out
 push_cast[QD,↓P5,↓P7,↓P8,↓P9]
 refine⟨_,_,_,hb,T.cl,T.nM,_,FW,A7 (SqL.of hm) rfl ex ⟨cx,rfl,_,_,_,hc1,T.cc,T.nN,_,WO,nt,rfl,.inr ⟨⟨_,SqT.of hc3⟩,?_⟩⟩⟩
 refine mY (xs:=c.nd.map V.int) (λi σ H'=>H'=H/\(∀ x∈c.nd.take i,(outs x || BJ kvg x)=true)/\∃ z,σ=[some (.ref A.b),some (.int k),some (.ref g),z]) ⟨rfl,by simp,_,rfl⟩ (λi σ H' _ ⟨e,_⟩=>e ▸ SqT.of hc3) (λi x σ H' hx ⟨e,al,z,ez⟩=> ?_) (λσ H' ⟨e,al,z,ez⟩=> ?_)
 ·subst e;subst ez
  rw[List.getElem?_map,Option.map_eq_some_iff]at hx
  obtain⟨y,hy,rfl⟩:=hx
  push_cast[↓P5,↓P7,↓P8,↓P9]
  have step:(outs y || BJ kvg y)=true->∀ x∈c.nd.take (i+1),(outs x || BJ kvg x)=true:=λh x hx=>by
   rw[List.take_add_one,hy]at hx
   rcases List.mem_append.mp hx with hx | hx
   ·exact al x hx
   ·have:x=y:=by simpa using hx
    exact this ▸ h
  refine⟨_,_,_,hb,T.cl,T.nO,_,K0,A.ou,rfl,_,dI ho,?_⟩
  rw[hv]
  cases h1:outs y with
  | true =>
   push_cast[]
   exact step (by rw[h1];rfl)
  | false =>
   push_cast[]
   refine⟨_,dI hg,?_⟩
   cases h2:(BC kvg (.inl y)).isSome with
   | true =>
    push_cast[]
    exact step (by show(outs y || (BC kvg (.inl y)).isSome)=true;rw[h2];simp)
   | false =>
    push_cast[]
    have e:FC c.nd (λx=>outs x || BJ kvg x)=some y:=by
     obtain⟨hi,e⟩:=List.getElem?_eq_some_iff.mp hy
     unfold FC
     rw[List.find?_eq_some_iff_append]
     refine⟨by show(!(outs y || (BC kvg (.inl y)).isSome))=true;rw[h1,h2];rfl,c.nd.take i,c.nd.drop (i+1),?_,λx hx=>by show(!!(outs x || BJ kvg x))=true;rw[al x hx];rfl⟩
     rw[<-e,<-List.drop_eq_getElem_cons hi,List.take_append_drop]
    rw[e]at q
    exact q
 ·subst e;subst ez
  rw[List.length_map,List.take_length]at al
  push_cast[↓P5,↓P7,↓P8,↓P9]
  have e:FC c.nd (λx=>outs x || BJ kvg x)=none:=List.find?_eq_none.mpr λx hx=>by show ¬ (!(outs x || BJ kvg x))=true;rw[al x hx];exact Bool.false_ne_true
  rw[e]at q
  exact q
theorem xI(h:K5 K a vs H Q E):vs.length=3:=by
 obtain⟨_,_,_,_,_,_,_,_,_,_,rfl,_⟩:=h
 rfl
def xJ(s:Pass)(m:Nat)(H1 H':Hp)(g ol hl:Addr):Prop:=∃ (kvg:List (AS × V)) (hs:List Addr),SameBut (λy=>y=g\/y=ol\/y=hl) H1 H'/\H' g=some (.dK kvg)/\(∀ x:Int,BJ kvg x=s.gone x)/\kvg.length<=m/\H' ol=some (.lst (s.out.map λ(k:Nat)=>V.int k)) ∧
 H' hl=some (.lst (hs.map V.ref))/\Paired (λx (p:Nat × Int)=>H' x=some (.tup [.int p.1,.int p.2])) hs s.held
theorem SB(kvs:List (AS × V))(k x:Int)(v:V):BJ (CA kvs (.inl k) v) x=(BJ kvs x || x == k):=by
 unfold BJ
 rw[OC]
 by_cases e:x=k
 ·subst e;simp
 ·have:¬ (Sum.inl x:AS)=Sum.inl k:=λz=>e (by simpa using z)
  rw[if_neg this];simp[e]
theorem xK (h:HD K a vs H Q E):RA K a (λ_=>E) (BB Q) (A8 ["self","block","taken","gone","out","held","number","lack"] vs) H:=by
  obtain⟨A,w,rows,n,cs,outs,b,tk,kvt,rfl,T,B,hbl,htk,hkt,q⟩:=h
  obtain⟨dx,hb⟩:=B.bk.ob
  push_cast[RA,↓QZ,↓Q0,↓Q1,↓Q2,↓Q3,↓Q4,↓Q5,↓Q6,↓Q7,↓Q8,↓Q9]
  refine⟨_,htk,λg hg=>⟨by decide,λol hol=>⟨by decide,λhl hhl=> ?_⟩⟩⟩
  have s1:Same H (upd (upd (upd H g (.dK kvt)) ol (.lst [])) hl (.lst [])):=((AW hg).trans (AW hol)).trans (AW hhl)
  have ngo:g≠ol:=AY AK hol
  have nol:ol≠hl:=AY AK hhl
  have ngl:g≠hl:=AY (by rw[AH ngo];exact AK) hhl
  have eg:upd (upd (upd H g (.dK kvt)) ol (.lst [])) hl (.lst []) g=some (.dK kvt):=by rw[AH ngl,AH ngo,AK]
  have eo:upd (upd (upd H g (.dK kvt)) ol (.lst [])) hl (.lst []) ol=some (.lst []):=by rw[AH nol,AK]
  have el:upd (upd (upd H g (.dK kvt)) ol (.lst [])) hl (.lst []) hl=some (.lst []):=AK
  have holH:H ol=none:=(AW hg).free hol
  have hhlH:H hl=none:=((AW hg).trans (AW hol)).free hhl
  revert s1 eg eo el
  generalize upd (upd (upd H g (.dK kvt)) ol (.lst [])) hl (.lst [])=H1
  intro s1 eg eo el
  have hil:b<A.ls.length:=by rw[B.nb];exact hbl
  have ell:=List.getElem?_eq_getElem hil
  have hll:=B.bk.mic b _ ell
  revert ell hll
  generalize A.ls[b]=l
  intro ell hll
  refine⟨_,_,_,s1 _ _ hb,T.cl,T.nI,_,PH,A7 (SqL.of (s1 _ _ B.bk.mil)) (n:=b) (v:=.ref l) rfl (by rw[List.getElem?_map,ell];rfl) ⟨l,rfl,.inl ⟨⟨_,SqL.of (s1 _ _ hll)⟩,?_⟩⟩⟩
  have bln:=WM cs b
  have sz:=B.bk.sz
  have G:∀ {H':Hp},SameBut (λy=>y=g\/y=ol\/y=hl) H1 H'->Same H H':=λsb y o e=>sb _ _ (s1 _ _ e) (by
    rintro (z | z | z)
    ·rw[z,hg]at e;cases e
    ·rw[z,holH]at e;cases e
    ·rw[z,hhlH]at e;cases e)
  refine E9 (xs:=(CH cs b).map λ(k:Nat)=>V.int k) (λi σ H'=>xJ (((CH cs b).take i).foldl (BV cs outs) ⟨[],[],BJ kvt⟩) (1000+i) H1 H' g ol hl/\∃ z1 z2,σ=[some (.ref A.b),some (.int b),some (.ref tk),some (.ref g),some (.ref ol),some (.ref hl),z1,z2])
    ⟨⟨kvt,[],SameBut.refl _,eg,λ_=>rfl,by omega,eo,el,.nil⟩,_,_,rfl⟩ (λi σ H' _ ⟨⟨kvg,hs,sb,_⟩,_⟩=>SqL.of (G sb _ _ hll)) (λi x σ H' hx ⟨iv,z1,z2,ez⟩=> ?_) (λσ H' ⟨iv,z1,z2,ez⟩=> ?_)
  · subst ez
    have hi:=(List.getElem?_eq_some_iff.mp hx).1
    rw[List.length_map]at hi
    rw[List.getElem?_map,Option.map_eq_some_iff]at hx
    obtain⟨k,hk,rfl⟩:=hx
    have hkc:=M7 (List.mem_of_getElem? hk)
    have ec:=List.getElem?_eq_getElem hkc
    revert ec
    generalize cs[k]=c
    intro ec
    have hszs:=WU (cs:=cs) (outs:=outs) ((CH cs b).take i) ⟨[],[],BJ kvt⟩
    have es:=PL (BV cs outs) (⟨[],[],BJ kvt⟩:Pass) hk
    revert iv hszs es
    generalize ((CH cs b).take i).foldl (BV cs outs) ⟨[],[],BJ kvt⟩=s
    generalize ((CH cs b).take (i+1)).foldl (BV cs outs) ⟨[],[],BJ kvt⟩=s'
    intro iv hszs es
    obtain⟨kvg,hs,sb,e1,e2,e3,e4,e5,e6⟩:=iv
    simp only[List.length_nil,List.length_take]at hszs
    have sH:=G sb
    have B':=B.same sH
    obtain⟨kvo,ho,hv,_⟩:=B.bk.out
    push_cast[↓QZ,↓Q0,↓Q1,↓Q2,↓Q3,↓Q4,↓Q5,↓Q6,↓Q7,↓Q8,↓Q9]
    refine⟨_,_,_,sH _ _ hb,T.cl,T.nO,_,K0,A.ou,rfl,_,dI (sH _ _ ho),?_⟩
    rw[hv]
    unfold BV at es
    cases h1:outs k with
    | true =>
      rw[h1,Bool.true_or,if_pos rfl]at es
      push_cast[]
      rw[es]
      exact⟨kvg,hs,sb,e1,e2,by omega,e4,e5,e6⟩
    | false =>
      rw[h1,Bool.false_or]at es
      push_cast[]
      refine⟨_,dI e1,?_⟩
      have e2k:(BC kvg (.inl (k:Int))).isSome=s.gone k:=e2 k
      rw[e2k]
      cases h2:s.gone k with
      | true =>
        rw[h2,if_pos rfl]at es
        push_cast[]
        rw[es]
        exact⟨kvg,hs,sb,e1,e2,by omega,e4,e5,e6⟩
      | false =>
        rw[h2,if_neg Bool.false_ne_true,ec]at es
        push_cast[]
        refine⟨_,_,sH _ _ hb,B0 (by decide +kernel),A,w,rows,n,cs,outs,k,c,g,kvg,rfl,T,B',ec,e1,?_⟩
        have efn:(λx=>outs x || BJ kvg x)=λx=>outs x || s.gone x:=by funext x;rw[e2]
        rw[efn]
        simp only[Option.bind_some]at es
        cases h3:FC c.nd (λx=>outs x || s.gone x)with
        | none =>
          rw[h3]at es
          dsimp only at es
          dsimp only [PR]
          rw[if_pos rfl]
          refine⟨_,pI e1 (by omega),.inl ⟨rfl,_,SqL.of (by rw[AH ngo.symm];exact e4)⟩,ol,_,_,rfl,rfl,by rw[AH ngo.symm];exact e4,Nat.lt_of_lt_of_le (show(s.out.map λ(k:Nat)=>V.int k).length<1000 by rw[List.length_map];omega) (by decide),?_⟩
          rw[es]
          refine⟨_,hs,?_,by rw[AH ngo,AK],λx=>by rw[SB,e2],?_,by rw[AK,List.map_append];rfl,by rw[AH nol.symm,AH ngl.symm];exact e5,Paired.mapP e6 λx p e=> ?_⟩
          · intro y o e ny
            rw[AH λz=>ny (.inr (.inl z)),AH λz=>ny (.inl z)]
            exact sb _ _ e ny
          · have:=IC kvg (.inl (k:Int)) (.bl true)
            omega
          ·rw[AH (A6 e e4 (by intro z;cases z)),AH (A6 e e1 (by intro z;cases z))];exact e
        | some l' =>
          rw[h3]at es
          dsimp only at es
          dsimp only [PR]
          rw[if_neg (by intro z;cases z)]
          refine⟨.inl ⟨rfl,_,SqL.of e5⟩,by decide,λtp htp=> ?_⟩
          have ntl:hl≠tp:=AY e5 htp
          refine⟨hl,_,_,rfl,rfl,by rw[AH ntl];exact e5,Nat.lt_of_lt_of_le (show(hs.map V.ref).length<1000 by rw[List.length_map,e6.length];omega) (by decide),?_⟩
          rw[es]
          have s2:=AW (o:=.tup [.int (k:Int),.int l']) htp
          have kp:∀ y,y≠hl->y≠tp->upd (upd H' tp (.tup [.int (k:Int),.int l'])) hl (.lst (hs.map V.ref++[.ref tp])) y=H' y:=λy n1 n2=>by rw[AH n1,AH n2]
          refine⟨kvg,hs++[tp],?_,by rw[kp g ngl (AY e1 htp)];exact e1,e2,by omega,by rw[kp ol nol (AY e4 htp)];exact e4,by rw[AK,List.map_append];rfl,Paired.snoc (Paired.mapP e6 λx p e=> ?_) ?_⟩
          · intro y o e ny
            have e':=sb _ _ e ny
            rw[kp y (λz=>ny (.inr (.inr z))) (AY e' htp)];exact e'
          ·rw[kp x (A6 e e5 (by intro z;cases z)) (AY e htp)];exact e
          ·rw[AH ntl.symm,AK]
  · subst ez
    rw[List.length_map,List.take_length]at iv
    push_cast[↓QZ,↓Q0,↓Q1,↓Q2,↓Q3,↓Q4,↓Q5,↓Q6,↓Q7,↓Q8,↓Q9]
    obtain⟨kvg,hs,sb,e1,e2,e3,e4,e5,e6⟩:=iv
    refine⟨by decide,λt ht=> ?_⟩
    have s2:=AW (o:=.tup [.ref ol,.ref hl]) ht
    exact q t ol hl _ holH hhlH nol ((G sb).trans s2) ⟨AK,s2 _ _ e4,hs,s2 _ _ e5,Paired.mapP e6 λx p e=>s2 _ _ e⟩
theorem xL(h:HD K a vs H Q E):vs.length=3:=by
 obtain⟨_,_,_,_,_,_,_,_,_,rfl,_⟩:=h
 rfl
theorem xM(h:K6 K a vs H Q E):QK K a (λ_=>E) (BB Q) (A8 ["self","values","block","laid","number"] vs) H:=by
 obtain⟨A,w,rows,n,cs,outs,b,vl,row,rfl,T,B,hbl,hvl,hrl,q⟩:=h
 obtain⟨dx,hb⟩:=B.bk.ob
 obtain⟨kvo,ho,hv,_⟩:=B.bk.out
 push_cast[QK,↓QE,↓QF,↓QH,↓QI,↓QJ]
 refine⟨_,.inl (SqL.of hvl),λla hla=> ?_⟩
 have s1:=AW (o:=.lst row) hla
 have hil:b<A.ls.length:=by rw[B.nb];exact hbl
 have ell:=List.getElem?_eq_getElem hil
 have hll:=B.bk.mic b _ ell
 revert ell hll
 generalize A.ls[b]=l
 intro ell hll
 refine⟨_,_,_,s1 _ _ hb,T.cl,T.nI,_,PH,A7 (SqL.of (s1 _ _ B.bk.mil)) (n:=b) (v:=.ref l) rfl (by rw[List.getElem?_map,ell];rfl) ⟨l,rfl,.inl ⟨⟨_,SqL.of (s1 _ _ hll)⟩,?_⟩⟩⟩
 have sk:∀ o,Same H (upd H la o):=λo=>AW hla
 refine E9 (xs:=(CH cs b).map λ(k:Nat)=>V.int k) (λi σ H'=>H'=upd H la (.lst (((CH cs b).take i).foldl (FX cs outs) row))/\∃ z1,σ=[some (.ref A.b),some (.ref vl),some (.int b),some (.ref la),z1])
  ⟨rfl,_,rfl⟩ (λi σ H' _ ⟨e,_⟩=>by rw[e];exact SqL.of (sk _ _ _ hll)) (λi x σ H' hx ⟨e,z1,ez⟩=> ?_) (λσ H' ⟨e,z1,ez⟩=> ?_)
 ·subst e;subst ez
  rw[List.getElem?_map,Option.map_eq_some_iff]at hx
  obtain⟨k,hk,rfl⟩:=hx
  have hkc:=M7 (List.mem_of_getElem? hk)
  have ec:=List.getElem?_eq_getElem hkc
  revert ec
  generalize cs[k]=c
  intro ec
  have es:=PL (FX cs outs) row hk
  have hlen:=PK (cs:=cs) (outs:=outs) ((CH cs b).take i) row
  revert es hlen
  generalize ((CH cs b).take i).foldl (FX cs outs) row=r
  generalize ((CH cs b).take (i+1)).foldl (FX cs outs) row=r'
  intro es hlen
  have sH:=sk (.lst r)
  push_cast[↓QE,↓QF,↓QH,↓QI,↓QJ]
  refine⟨_,_,_,sH _ _ hb,T.cl,T.nO,_,K0,A.ou,rfl,_,dI (sH _ _ ho),?_⟩
  rw[hv]
  unfold FX at es
  cases h1:outs k with
  | false =>
   rw[h1,if_neg Bool.false_ne_true]at es
   push_cast[]
   rw[es]
  | true =>
   rw[h1,if_pos rfl,ec]at es
   dsimp only at es
   push_cast[]
   obtain⟨xs,cx,hm,ex,dc,pl,nt,hc1,hc2,hc3⟩:=(B.same sH).bk.at ec
   have hcell:=(B.bk.inn c (List.mem_of_getElem? ec)).2
   refine⟨_,_,_,sH _ _ hb,T.cl,T.nM,_,FW,A7 (SqL.of hm) rfl ex ⟨cx,rfl,_,_,_,hc1,T.cc,T.nV,_,qD,?_⟩⟩
   refine⟨_,_,_,sH _ _ hb,T.cl,T.nM,_,FW,A7 (SqL.of hm) rfl ex ⟨cx,rfl,_,_,_,hc1,T.cc,T.nP,_,WN,CI hc2 (n:=1) rfl rfl ?_⟩⟩
   refine⟨la,r,(c.cell:Int),c.cell,rfl,rfl,AK,?_,?_⟩
   ·unfold E4
    rw[if_pos (by omega),if_pos (by omega),Int.toNat_natCast]
   ·rw[F6,es]
 ·subst e;subst ez
  rw[List.length_map,List.take_length]
  push_cast[↓QE,↓QF,↓QH,↓QI,↓QJ]
  exact q la _ hla (sk _) AK
theorem xN(h:K6 K a vs H Q E):vs.length=3:=by
 obtain⟨_,_,_,_,_,_,_,_,_,rfl,_⟩:=h
 rfl
theorem xO(h:FE K a vs H Q E):RP K a (λ_=>E) (BB Q) (A8 ["self","block","values","told","number"] vs) H:=by
 obtain⟨A,w,rows,n,cs,outs,b,rfl,T,TP,B,q,qe⟩:=h
 obtain⟨dx,hb⟩:=B.bk.ob
 obtain⟨dp,hg⟩:=B.pk.ob
 push_cast[RP,↓NB,↓NC,↓ND,↓NE,↓NF,↓NG]
 refine⟨_,_,_,hb,T.cl,T.nG,_,KZ,A.gp,rfl,_,_,hg,R9 _ _ _,A.gp,A.cl,w,rows,n,b,rfl,TP,B.pk,λb' row eb er vl hvl=> ?_,qe⟩
 subst eb
 push_cast[]
 have hbl:=(List.getElem?_eq_some_iff.mp er).1
 have s1:=AW (o:=.lst row) hvl
 have ev:upd H vl (.lst row) vl=some (.lst row):=AK
 revert s1 ev
 generalize upd H vl (.lst row)=H1
 intro s1 ev
 refine⟨_,_,s1 _ _ hb,B0 (by decide +kernel),λe0 he0=> ?_⟩
 have s2:=s1.trans (AW (o:=.dK []) he0)
 refine⟨A,w,rows,n,cs,outs,b',e0,[],rfl,T,B.same s2,hbl,AK,by simp,λt ol hl H3 hol hhl nol s3 told=> ?_⟩
 have s03:=s2.trans s3
 have ev3:=s3 _ _ (AW he0 _ _ ev)
 have holH:=s2.free hol
 have hhlH:=s2.free hhl
 have hasnil:(BJ ([]:List (AS × V)))=λ_=>false:=rfl
 rw[hasnil]at told
 obtain⟨ht,ho3,hs,hh3,hpr⟩:=told
 obtain⟨rise,fresh,_⟩:=WY (cs:=cs) (outs:=outs) (b:=b')
 have eW:C3 cs outs b'=λx=>outs x || (outcome cs outs (λ_=>false) b').out.any λ(k:Nat)=>x ==(k:Int):=rfl
 replace q:=λH' a1 a2 a3=>q b' row t ol hl H' rfl er holH hhlH nol a1 a2 a3
 revert ho3 hpr rise fresh eW q
 generalize outcome cs outs (λ_=>false) b'=oc
 generalize C3 cs outs b'=ow
 intro ho3 hpr rise fresh eW q
 push_cast[]
 refine CI ht (n:=0) rfl rfl ⟨ol,rfl,.inl ⟨⟨_,SqL.of ho3⟩,?_⟩⟩
 obtain⟨kvo,hou,hvo,hko⟩:=B.bk.out
 have hou3:=s03 _ _ hou
 have fO:¬ A.F ol:=B.off holH
 have fL:¬ A.F hl:=B.off hhlH
 have nou:ol≠A.ou:=λz=>fO (.inr (.inr (.inr (.inr (.inl z)))))
 refine E9 (xs:=oc.out.map λ(k:Nat)=>V.int k) (λi σ H'=>(∃ kv,H'=upd H3 A.ou (.dK kv)/\(∀ x:Int,(BC kv (.inl x)).isSome=(outs x || (oc.out.take i).any λ(k:Nat)=>x ==(k:Int)))/\KeysOk kv cs.length)/\∃ z1,σ=[some (.ref A.b),some (.int b'),some (.ref vl),some (.ref t),z1])
  ⟨⟨kvo,?_,λx=>by rw[hvo];simp,hko⟩,_,rfl⟩ (λi σ H' _ ⟨⟨kv,e,_⟩,_⟩=>by rw[e];exact SqL.of (by rw[AH nou];exact ho3)) (λi x σ H' hx ⟨⟨kv,e,hv,hk⟩,z1,ez⟩=> ?_) (λσ H' ⟨⟨kv,e,hv,hk⟩,z1,ez⟩=> ?_)
 ·funext y
  by_cases e:y=A.ou
  ·subst e;rw[AK];exact hou3
  ·rw[AH e]
 ·subst e;subst ez
  rw[List.getElem?_map,Option.map_eq_some_iff]at hx
  obtain⟨k,ek,rfl⟩:=hx
  have hkm:=List.mem_of_getElem? ek
  have hkc:=M7 (fresh k hkm).2
  have hnone:BC kv (.inl (k:Int))=none:=by
   have:=hv k
   rw[(fresh k hkm).1,Bool.false_or]at this
   have z:(oc.out.take i).any (λ(j:Nat)=>(k:Int) ==(j:Int))=false:=by
    rw[List.any_eq_false]
    intro j hj
    obtain⟨m,hm,e⟩:=List.getElem_of_mem hj
    rw[List.length_take]at hm
    rw[List.getElem_take]at e
    obtain⟨hi,e2⟩:=List.getElem?_eq_some_iff.mp ek
    have:=List.pairwise_iff_getElem.mp rise m i (by omega) hi (by omega)
    rw[e,e2]at this
    simp;omega
   rw[z]at this
   exact Option.isSome_eq_false_iff.mp this |> Option.isNone_iff_eq_none.mp
  push_cast[↓NB,↓NC,↓ND,↓NE,↓NF,↓NG]
  have hb3:upd H3 A.ou (.dK kv) A.b=some (.ins (DD a) dx (bf A.gp A.m A.mi A.lt A.ou)):=by
   rw[AH (A6 (s03 _ _ hb) hou3 (by intro z;cases z))];exact s03 _ _ hb
  refine⟨_,_,_,hb3,T.cl,T.nO,_,K0,A.ou,rfl,_,pI AK (by have:=hk.len;have:=B.bk.sz;omega),_,F6,λx=> ?_,hk.put hkc hnone _⟩
  have:=SB kv k x (.bl true)
  unfold BJ at this
  rw[this,hv,List.take_add_one,ek,List.any_append,Bool.or_assoc]
  simp
 ·subst e;subst ez
  rw[List.length_map,List.take_length]at hv
  replace hv:∀ x:Int,(BC kv (.inl x)).isSome=ow x:=λx=>by rw[hv,eW]
  push_cast[↓NB,↓NC,↓ND,↓NE,↓NF,↓NG]
  have lou:EL (H A.ou):=WR hou
  have kb:∀ {y:Addr} {o:HO},H y=some o->y≠A.ou->upd H3 A.ou (.dK kv) y=some o:=λe n=>by rw[AH n];exact s03 _ _ e
  have sb4:SameBut (· =A.ou) H (upd H3 A.ou (.dK kv)):=λy o e n=>kb e n
  have B4:A1 a (upd H3 A.ou (.dK kv)) A w rows n cs ow:=by
   obtain⟨⟨b1,b2,b3,b4,b5,b6,_,b8,b9,b10,b11,b12⟩,pk,nb⟩:=B
   have g:∀ x,x=A.ou->EL (H x):=λx e=>e ▸ lou
   obtain⟨dx',b1⟩:=b1
   obtain⟨chs,b2,b2'⟩:=b2
   obtain⟨kvs,b6,b6'⟩:=b6
   obtain⟨ts,pl1,pl2⟩:=pk.ls
   refine⟨⟨⟨dx',kb b1 (A6 b1 hou (by intro z;cases z))⟩,⟨chs,kb b2 (A6 b2 hou (by intro z;cases z)),Paired.mapP b2' λx c h=>h.sb sb4 g⟩,kb b3 (A6 b3 hou (by intro z;cases z)),λi l e=>kb (b4 i l e) (A6 (b4 i l e) hou (by intro z;cases z)),b5,⟨kvs,kb b6 (A6 b6 hou (by intro z;cases z)),b6'⟩,⟨kv,AK,hv,hk⟩,b8,b9,b10,b11,b12⟩,pk.sbL sb4 g (A6 pl1 hou (by intro z;cases z)),nb⟩
  have ev4:upd H3 A.ou (.dK kv) vl=some (.lst row):=by rw[AH (A6 ev3 hou3 (by intro z;cases z))];exact ev3
  have ht4:upd H3 A.ou (.dK kv) t=some (.tup [.ref ol,.ref hl]):=by rw[AH (A6 ht hou3 (by intro z;cases z))];exact ht
  have ho4:upd H3 A.ou (.dK kv) ol=some (.lst (oc.out.map λ(k:Nat)=>V.int k)):=by rw[AH nou];exact ho3
  have hh4:upd H3 A.ou (.dK kv) hl=some (.lst (hs.map V.ref)):=by rw[AH (A6 hh3 hou3 (by intro z;cases z))];exact hh3
  have hp4:Paired (λx (p:Nat × Int)=>upd H3 A.ou (.dK kv) x=some (.tup [.int p.1,.int p.2])) hs oc.held:=Paired.mapP hpr λx p e=>by rw[AH (A6 e hou3 (by intro z;cases z))];exact e
  revert sb4 B4 ev4 ht4 ho4 hh4 hp4
  generalize upd H3 A.ou (.dK kv)=H4
  intro sb4 B4 ev4 ht4 ho4 hh4 hp4
  obtain⟨dx4,hb4⟩:=B4.bk.ob
  obtain⟨dp4,hg4⟩:=B4.pk.ob
  refine⟨_,_,_,hb4,T.cl,T.nG,_,KZ,A.gp,rfl,_,_,hg4,wI _ _ _,_,_,hb4,B0 (by decide +kernel),A,w,rows,n,cs,ow,b',vl,row,rfl,T,B4,hbl,ev4,B.pk.wd row (List.mem_of_getElem? er),λll H5 hll5 s5 ell5=> ?_⟩
  have B5:=B4.same s5
  refine⟨A.gp,A.cl,w,rows,n,b',ll,FY cs ow b' row,rfl,TP,B5.pk,SqL.of ell5,by rw[WT,B.pk.wd row (List.mem_of_getElem? er)];have:=B.pk.sw;omega,λi ei hi hxw H6 P6 sb6=> ?_,λz=> ?_⟩
  ·have ei:b'=i:=by omega
   subst ei
   push_cast[↓NB,↓NC,↓ND,↓NE,↓NF,↓NG]
   obtain⟨ts5,pl5,pt5⟩:=B5.pk.ls
   obtain⟨dp5,hg5⟩:=B5.pk.ob
   have ap:=B5.bk.ap
   have nF:∀ {y:Addr} {o:HO},H5 y=some o->(∀ C d f,o≠.ins C d f)->(∀ xs,o≠.lst xs)->¬ (y=A.gp\/y=A.cl):=λe n1 n2=>by
    rintro (z | z)
    ·exact A6 e hg5 (n1 _ _ _) z
    ·exact A6 e pl5 (n2 _) z
   have gp_b:A.b≠A.gp:=by
    obtain⟨d5,hb5⟩:=B5.bk.ob
    exact A6 hb5 hg5 (M6 (by simp[bf,pf]))
   have k6:∀ {y:Addr} {o:HO},H5 y=some o->y≠A.gp->y≠A.cl->H6 y=some o:=λe n1 n2=>sb6 _ _ e (by rintro (z | z);exact n1 z;exact n2 z)
   have notins:∀ {y:Addr} {o:HO},H5 y=some o->(∀ C d f,o≠.ins C d f)->y≠A.gp:=λe n=>A6 e hg5 (n _ _ _)
   have B6:A1 a H6 A w (rows.set b' (FY cs ow b' row)) (n+1) cs ow:=by
    obtain⟨⟨b1,b2,b3,b4,b5,b6,b7,b8,b9,b10,b11,b12⟩,pk,nb⟩:=B5
    obtain⟨dx',b1⟩:=b1
    obtain⟨chs,b2,b2'⟩:=b2
    obtain⟨kvs,b6,b6'⟩:=b6
    obtain⟨kvo',b7,b7'⟩:=b7
    refine⟨⟨⟨dx',k6 b1 gp_b (A6 b1 pl5 (by intro z;cases z))⟩,⟨chs,k6 b2 (notins b2 (by intro _ _ _ z;cases z)) ap.2.2.2.1.symm,Paired.mapP b2' λx c h=> ?_⟩,k6 b3 (notins b3 (by intro _ _ _ z;cases z)) ap.2.2.2.2.1.symm,λi l e=>k6 (b4 i l e) (notins (b4 i l e) (by intro _ _ _ z;cases z)) (λz=>ap.2.2.2.2.2 (z ▸ List.mem_of_getElem? e)),b5,⟨kvs,k6 b6 (notins b6 (by intro _ _ _ z;cases z)) (A6 b6 pl5 (by intro z;cases z)),b6'⟩,⟨kvo',k6 b7 (notins b7 (by intro _ _ _ z;cases z)) (A6 b7 pl5 (by intro z;cases z)),b7'⟩,b8,b9,b10,b11,b12⟩,P6,by rw[nb,List.length_set]⟩
    obtain⟨dc,p1,n1,h1,h2,h3⟩:=h
    exact⟨dc,p1,n1,k6 h1 (A6 h1 hg5 (M6 (by simp[DQ,pf]))) (A6 h1 pl5 (by intro z;cases z)),k6 h2 (notins h2 (by intro _ _ _ z;cases z)) (A6 h2 pl5 (by intro z;cases z)),k6 h3 (notins h3 (by intro _ _ _ z;cases z)) (A6 h3 pl5 (by intro z;cases z))⟩
   have ncO:ol≠A.cl:=λz=>fO (.inr (.inr (.inr (.inr (.inr z)))))
   have ncL:hl≠A.cl:=λz=>fL (.inr (.inr (.inr (.inr (.inr z)))))
   have ht5:=s5 _ _ ht4
   have ho5:=s5 _ _ ho4
   have hh5:=s5 _ _ hh4
   refine q H6 ⟨k6 ht5 (notins ht5 (by intro _ _ _ z;cases z)) (A6 ht5 pl5 (by intro z;cases z)),k6 ho5 (notins ho5 (by intro _ _ _ z;cases z)) ncO,hs,k6 hh5 (notins hh5 (by intro _ _ _ z;cases z)) ncL,Paired.mapP hp4 λx p e=> ?_⟩ B6 λy o e ny=> ?_
   ·have e5:=s5 _ _ e
    exact k6 e5 (notins e5 (by intro _ _ _ z;cases z)) (A6 e5 pl5 (by intro z;cases z))
   ·exact k6 (s5 _ _ (sb4 _ _ e λz=>ny (.inl (.inr (.inr (.inr (.inr (.inl z)))))))) (λz=>ny (.inr z)) (λz=>ny (.inl (.inr (.inr (.inr (.inr (.inr z)))))))
  ·rcases z with z | z | z
   ·omega
   ·omega
   ·exact absurd (by rw[WT,B.pk.wd row (List.mem_of_getElem? er)]) z
theorem xP(h:FE K a vs H Q E):vs.length=2:=by
 obtain⟨_,_,_,_,_,_,_,rfl,_⟩:=h
 rfl
theorem xQ(h:K7 K a vs H Q E):QW K a (λ_=>E) (BB Q) (A8 ["self","number"] vs) H:=by
 obtain⟨A,w,rows,n,cs,outs,x,rfl,T,B,q,qe⟩:=h
 obtain⟨dx,hb⟩:=B.bk.ob
 push_cast[QW,↓sC,↓sD]
 refine⟨_,_,hb,B0 (by decide +kernel),by decide,λl hl=> ?_⟩
 have s1:=AW (o:=.lst [.int x]) hl
 refine⟨A,w,rows,n,cs,outs,l,[x],rfl,T,B.same s1,SqL.of AK,λkn=> ?_,λ⟨y,hy,hn⟩=> ?_⟩
 ·have hk:=kn x (List.mem_singleton.mpr rfl)
  obtain⟨k,rfl⟩:∃ k:Nat,x=k:=⟨x.toNat,by omega⟩
  have hkl:k<cs.length:=by have:=hk.2;omega
  have ec:=List.getElem?_eq_getElem hkl
  obtain⟨xs,p,e1,e2,dx2,pl,nt,c1,c2,c3⟩:=B.bk.at ec
  push_cast[]
  refine⟨_,_,_,s1 _ _ hb,T.cl,T.nM,_,FW,A7 (SqL.of (s1 _ _ e1)) rfl e2 ?_⟩
  push_cast[]
  refine⟨_,_,_,s1 _ _ c1,T.cc,T.nN,_,WO,nt,_,rfl,.inr (SqT.of (s1 _ _ c3)),λr hr=> ?_⟩
  exact q k _ r _ rfl ec (s1.free hr) (s1.trans (AW hr)) AK
 ·rw[List.mem_singleton.mp hy]at hn
  exact qe hn _ s1
theorem xR(h:K7 K a vs H Q E):vs.length=2:=by
 obtain⟨_,_,_,_,_,_,_,rfl,_⟩:=h
 rfl
theorem NL(f:Nat->Nat):∀ m:Nat,(∀ i,i<m->f i<=(CB f m).2)/\(1<=m->(CB f m).1<m/\f (CB f m).1=(CB f m).2/\∀ i,i<(CB f m).1->f i<(CB f m).2)
 | 0=>⟨λi h=>by omega,λh=>by omega⟩
 | m+1=>by
  obtain⟨h1,h2⟩:=NL f m
  have e:CB f (m+1)=if(CB f m).2<f m then(m,f m)else CB f m:=rfl
  by_cases h:(CB f m).2<f m
  ·rw[e,if_pos h]
   refine⟨λi hi=> ?_,λ_=>⟨Nat.lt_succ_self m,rfl,λi hi=>Nat.lt_of_le_of_lt (h1 i hi) h⟩⟩
   rcases Nat.lt_or_eq_of_le (Nat.le_of_lt_succ hi)with hi | hi
   ·exact Nat.le_of_lt (Nat.lt_of_le_of_lt (h1 i hi) h)
   ·rw[hi];exact Nat.le_refl _
  ·rw[e,if_neg h]
   refine⟨λi hi=> ?_,λ_=> ?_⟩
   ·rcases Nat.lt_or_eq_of_le (Nat.le_of_lt_succ hi)with hi | hi
    ·exact h1 i hi
    ·rw[hi];omega
   ·cases m with
    | zero =>
     have e0:CB f 0=(0,0):=rfl
     rw[e0]at h ⊢
     refine⟨Nat.lt_succ_self 0,?_,λi hi=>absurd hi (Nat.not_lt_zero i)⟩
     show f 0=0
     have:¬ 0<f 0:=h
     omega
    | succ k =>
     obtain⟨a1,a2,a3⟩:=h2 (by omega)
     exact⟨Nat.lt_succ_of_lt a1,a2,a3⟩
theorem xS{f:Nat->Nat}{m:Nat}{k:Int}(hm:1<=m)(hk:k∈(List.range m).map λ(i:Nat)=>(f i:Int))(top:∀ x∈(List.range m).map (λ(i:Nat)=>(f i:Int)),x<=k):((List.range m).map λ(i:Nat)=>(f i:Int)).idxOf k=(CB f m).1:=by
 obtain⟨h1,h2⟩:=NL f m
 obtain⟨a1,a2,a3⟩:=h2 hm
 have hat:∀ (i:Nat) (hi:i<((List.range m).map λ(i:Nat)=>(f i:Int)).length),((List.range m).map λ(i:Nat)=>(f i:Int))[i]=(f i:Int):=λi hi=>by simp
 have hj:=List.idxOf_lt_length_iff.mpr hk
 have ej:=List.getElem_idxOf hj
 rw[hat]at ej
 have low:∀ i,i<((List.range m).map λ(i:Nat)=>(f i:Int)).idxOf k->(f i:Int)≠k:=λi hi e=>by
  have:=ne_of_lt_idxOf hi (Nat.lt_trans hi hj)
  rw[hat,e]at this
  simp at this
 have hl:((List.range m).map λ(i:Nat)=>(f i:Int)).length=m:=by simp
 rw[hl]at hj
 generalize ((List.range m).map λ(i:Nat)=>(f i:Int)).idxOf k=j at *
 have kv:k=((CB f m).2:Int):=by
  have t1:=top (f (CB f m).1:Int) (List.mem_map.mpr ⟨_,List.mem_range.mpr a1,rfl⟩)
  have t2:=h1 j hj
  rw[a2]at t1
  omega
 rcases Nat.lt_trichotomy j (CB f m).1 with h | h | h
 ·have:=a3 j h;omega
 ·exact h
 ·have:=low _ h;rw[a2]at this;omega
theorem xT{n:Nat}{outs:Int->Bool}{k:Nat}{r:List Nat}(e:AX n outs=k::r)(j:Nat)(h:j<k):outs j=true:=by
 cases o:outs j with
 | true=>rfl
 | false =>
  exfalso
  have hk:=IY (show k∈AX n outs by rw[e];exact List.mem_cons_self)
  have hj:j∈AX n outs:=SA (by omega) o
  have rs:=cG n outs
  rw[e]at hj rs
  rcases List.mem_cons.mp hj with z | z
  ·omega
  ·have:=(List.pairwise_cons.mp rs).1 j z
   omega
abbrev LH(cs:List Ch):Prop:=∀ (k:Nat) (c:Ch),cs[k]? =some c->∀ x∈c.nd,0<=x/\x<k
theorem xU{cs:List Ch}{outs:Int->Bool}(hn:LH cs)(hw:AX cs.length outs≠[]):∃ c∈cs,DE cs outs=c.blk/\1<=BS cs outs c.blk:=by
 cases e:AX cs.length outs with
 | nil=>exact absurd e hw
 | cons k r =>
  have hk:=IY (show k∈AX cs.length outs by rw[e];exact List.mem_cons_self)
  have ec:=List.getElem?_eq_getElem hk.1
  revert ec
  generalize cs[k]=c
  intro ec
  obtain⟨r',er⟩:=qN ec hk.2 (λj hj=>xT e j hj) (hn k c ec)
  refine⟨c,List.mem_of_getElem? ec,by unfold DE;rw[e];simp only[ec],?_⟩
  unfold BS
  rw[er]
  simp
theorem xV{cs:List Ch}{outs:Int->Bool}{b:Nat}(h:1<=BS cs outs b):(AX cs.length (C3 cs outs b)).length<(AX cs.length outs).length:=by
 have e:AX cs.length (C3 cs outs b)=(AX cs.length outs).filter λ(k:Nat)=> !C3 cs outs b k:=by
  unfold AX
  rw[List.filter_filter]
  refine List.filter_congr λx _=> ?_
  unfold C3
  cases outs x<;>simp
 rw[e]
 unfold BS at h
 obtain⟨_,o2,_⟩:=WY (cs:=cs) (outs:=outs) (b:=b)
 cases eo:(outcome cs outs (λ_=>false) b).out with
 | nil=>rw[eo]at h;simp at h
 | cons k r =>
  obtain⟨q1,q2⟩:=o2 k (by rw[eo];exact List.mem_cons_self)
  refine List.length_filter_lt_length_iff_exists.mpr ⟨k,SA (M7 q2) q1,?_⟩
  have:C3 cs outs b k=true:=qL.mpr (.inr (by rw[eo];exact List.mem_cons_self))
  rw[this];simp
theorem xW{cs:List Ch}{outs:Int->Bool}{b:Nat}(h:BS cs outs b=0):C3 cs outs b=outs:=by
 unfold BS at h
 funext x
 unfold C3
 rw[List.eq_nil_of_length_eq_zero h]
 simp
def HG(b r m:Nat):Nat:=if r<=b then b - r else b+m - r
def EX(kind m:Nat)(cs:List Ch)(outs:Int->Bool)(t:Nat):Nat:=if kind<2 then(AX cs.length outs).length * m else(AX cs.length outs).length * m+HG (DE cs outs) (t % m) m
theorem NM{cs:List Ch}{outs:Int->Bool}{m:Nat}(hm:1<=m)(inn:∀ c∈cs,c.blk<m):DE cs outs<m:=by
 unfold DE
 split
 ·exact hm
 ·split
  ·next e=>exact inn _ (List.mem_of_getElem? e)
  ·exact hm
theorem xX{kind m:Nat}{cs:List Ch}{outs:Int->Bool}{t:Nat}(hm:1<=m)(inn:∀ c∈cs,c.blk<m):EX kind m cs outs t<=cs.length * m+m:=by
 have h1:=Nat.mul_le_mul_right m (cH cs.length outs)
 have h2:=NM (outs:=outs) hm inn
 have h3:=Nat.mod_lt t (by omega:m > 0)
 unfold EX HG
 split
 ·omega
 ·split<;>omega
theorem cJ{kind m:Nat}{cs:List Ch}{outs:Int->Bool}{t:Nat}(hm:1<=m)(inn:∀ c∈cs,c.blk<m):DF kind cs outs m t<m:=by
 unfold DF
 split
 ·exact NM hm inn
 ·exact((NL _ m).2 hm).1
 ·exact Nat.mod_lt t (by omega)
theorem xY{u u' m:Nat}(h:u'<u):u' * m+m<=u * m:=by
 have:=Nat.mul_le_mul_right m (Nat.succ_le_of_lt h)
 rw[Nat.succ_mul]at this
 exact this
theorem cK{kind m:Nat}{cs:List Ch}{outs:Int->Bool}{t:Nat}(hm:1<=m)(inn:∀ c∈cs,c.blk<m)(hn:LH cs)(hw:AX cs.length outs≠[]):EX kind m cs (C3 cs outs (DF kind cs outs m t)) (t+1)<EX kind m cs outs t:=by
 obtain⟨c,hc,eo,hg⟩:=xU hn hw
 have fall:1<=BS cs outs (DF kind cs outs m t)->EX kind m cs (C3 cs outs (DF kind cs outs m t)) (t+1)<EX kind m cs outs t:=λh=>by
  have h1:=xY (m:=m) (xV h)
  have h2:=NM (outs:=C3 cs outs (DF kind cs outs m t)) hm inn
  have h3:=Nat.mod_lt (t+1) (by omega:m > 0)
  unfold EX
  split
  ·omega
  ·have:HG (DE cs (C3 cs outs (DF kind cs outs m t))) ((t+1) % m) m<m:=by unfold HG;split<;>omega
   omega
 match kind with
 | 0=>exact fall (by show 1<=BS cs outs (DE cs outs);rw[eo];exact hg)
 | 1 =>
  obtain⟨b1,b2⟩:=NL (BS cs outs) m
  refine fall ?_
  show 1<=BS cs outs (CB (BS cs outs) m).1
  have:=b1 _ (inn c hc)
  rw[(b2 hm).2.1]
  omega
 | j+2 =>
  by_cases h:1<=BS cs outs (DF (j+2) cs outs m t)
  ·exact fall h
  ·have h0:BS cs outs (DF (j+2) cs outs m t)=0:=by omega
   rw[xW h0]
   have nb:t % m≠DE cs outs:=λe=>by
    rw[eo]at e
    have:DF (j+2) cs outs m t=c.blk:=e
    rw[this]at h0
    omega
   unfold EX
   rw[if_neg (by omega),if_neg (by omega)]
   have h2:=NM (outs:=outs) hm inn
   have h3:=Nat.mod_lt t (by omega:m > 0)
   have h4:(t+1) % m=(t % m+1) % m:=by rw[Nat.mod_add_mod]
   have:HG (DE cs outs) ((t+1) % m) m<HG (DE cs outs) (t % m) m:=by
    rw[h4]
    generalize t % m=r at *
    generalize DE cs outs=b at *
    unfold HG
    rcases Nat.lt_or_eq_of_le (Nat.succ_le_of_lt h3)with h5 | h5
    ·rw[Nat.mod_eq_of_lt h5]
     split<;>split<;>omega
    ·rw[show r+1=m from h5,Nat.mod_self]
     split<;>split<;>omega
   omega
theorem xZ(h:K8 K a vs H Q E):P0 K a (λ_=>E) (BB Q) (A8 ["self","number"] vs) H:=by
 obtain⟨A,w,rows,n,cs,outs,k,c,rfl,T,B,ec,q⟩:=h
 obtain⟨dx,hb⟩:=B.bk.ob
 obtain⟨xs,p,e1,e2,dx2,pl,nt,c1,c2,c3⟩:=B.bk.at ec
 push_cast[P0,↓qU]
 refine⟨_,_,_,hb,T.cl,T.nM,_,FW,A7 (SqL.of e1) rfl e2 ?_⟩
 push_cast[]
 exact⟨_,_,_,c1,T.cc,T.nP,_,WN,CI c2 (n:=0) rfl rfl q⟩
theorem x4(h:K8 K a vs H Q E):vs.length=2:=by
 obtain⟨_,_,_,_,_,_,_,_,rfl,_⟩:=h
 rfl
theorem x5(cl:Addr)(w n:Int):(pf cl w n).lookup ("blocks":Str)=none:=G5 _ _ _ (by decide +kernel) (by decide +kernel) (by decide +kernel)
theorem x6(h:HE K a vs H Q E):QX K a (λ_=>E) (BB Q) (A8 ["self"] vs) H:=by
 obtain⟨A,w,rows,n,cs,outs,rfl,T,TP,B,q⟩:=h
 obtain⟨dx,hb⟩:=B.bk.ob
 obtain⟨dp,hp⟩:=B.pk.ob
 push_cast[QX,↓sE]
 exact⟨_,_,_,hb,T.cl,T.nG,_,KZ,_,rfl,_,_,hp,x5 _ _ _,_,_,_,_,_,rfl,TP,B.pk,q⟩
theorem x8(h:HE K a vs H Q E):vs.length=1:=by
 obtain⟨_,_,_,_,_,_,rfl,_⟩:=h
 rfl
theorem x9(h:GN K a vs H Q E):PX K a (λ_=>E) (BB Q) (A8 ["self"] vs) H:=by
 obtain⟨x,dx,rfl,X,hx,q⟩:=h
 push_cast[PX,↓qP]
 exact⟨_,_,_,hx,X.cl,X.nT,by decide,q⟩
theorem yA(h:GN K a vs H Q E):vs.length=1:=by
 obtain⟨_,_,rfl,_⟩:=h
 rfl
theorem yB(h:GO K a vs H Q E):QU K a (λ_=>E) (BB Q) (A8 ["self","hold"] vs) H:=by
 obtain⟨x,A,w,rows,n,cs,outs,rfl,T,B,hw,q⟩:=h
 obtain⟨dx,hb⟩:=B.bk.ob
 push_cast[QU,↓rW]
 refine⟨_,_,hb,B0 (by decide +kernel),_,_,hb,B0 (by decide +kernel),A,w,rows,n,cs,outs,rfl,T,B,λl H1 hl s1 el=> ?_⟩
 cases e:AX cs.length outs with
 | nil=>exact absurd e hw
 | cons k r =>
  rw[e]at el
  have hk:=IY (show k∈AX cs.length outs by rw[e];exact List.mem_cons_self)
  have ec:=List.getElem?_eq_getElem hk.1
  revert ec
  generalize cs[k]=c
  intro ec
  refine A7 (SqL.of el) (n:=0) (v:=.int k) rfl rfl ⟨A,w,rows,n,cs,outs,k,c,rfl,T,B.same s1,ec,?_⟩
  have:DE cs outs=c.blk:=by unfold DE;rw[e];simp only[ec]
  rw[<-this]
  exact q _ s1
theorem yC(h:GO K a vs H Q E):vs.length=2:=by
 obtain⟨_,_,_,_,_,_,_,rfl,_⟩:=h
 rfl
theorem yD(h:GP K a vs H Q E):RM K a (λ_=>E) (BB Q) (A8 ["self","hold","best","most","block","many"] vs) H:=by
 obtain⟨x,A,w,rows,n,cs,outs,rfl,T,TP,B,hm,q⟩:=h
 obtain⟨dx,hb⟩:=B.bk.ob
 push_cast[RM,↓RE,↓RF,↓RG,↓RH,↓RI,↓RJ,↓RK,↓RL]
 refine⟨_,_,hb,B0 (by decide +kernel),A,w,rows,n,cs,outs,rfl,T,TP,B,?_⟩
 push_cast[]
 refine⟨by omega,by omega,?_⟩
 have bsz:=B.bk.sz
 refine FR (λi σ H'=>Same H H'/\∃ y4 y5,σ=[some x,some (.ref A.b),some (.int (CB (BS cs outs) i).1),some (.int (CB (BS cs outs) i).2),y4,y5]) ⟨Same.refl _,_,_,rfl⟩ (λi σ H' hi ⟨s1,y4,y5,eσ⟩=> ?_) (λσ H' ⟨s1,y4,y5,eσ⟩=> ?_)
 ·subst eσ
  push_cast[↓RE,↓RF,↓RG,↓RH,↓RI,↓RJ,↓RK,↓RL,Int.zero_add]
  refine⟨_,_,s1 _ _ hb,B0 (by decide +kernel),λd hd=> ?_⟩
  have s2:=AW (o:=.dK []) hd
  refine⟨A,w,rows,n,cs,outs,i,d,[],rfl,T,(B.same s1).same s2,hi,AK,by simp,λt ol hl H2 hol hhl nol s3 told=>CI told.1 (n:=0) rfl rfl ?_⟩
  have ek:(BJ []:Int->Bool)=λ_=>false:=by funext x;rfl
  rw[ek]at told
  have s13:=(s1.trans s2).trans s3
  push_cast[]
  refine⟨BS cs outs i,.inl ⟨_,SqL.of told.2.1,by rw[List.length_map];rfl⟩,?_⟩
  show if((CB (BS cs outs) i).2:Int)<(BS cs outs i:Int)then _ else _
  have eb:CB (BS cs outs) (i+1)=if(CB (BS cs outs) i).2<BS cs outs i then(i,BS cs outs i)else CB (BS cs outs) i:=rfl
  by_cases h:(CB (BS cs outs) i).2<BS cs outs i
  ·rw[if_pos (by omega),eb,if_pos h]
   exact⟨s13,rfl,rfl⟩
  ·rw[if_neg (by omega),eb,if_neg h]
   exact⟨s13,rfl,rfl⟩
 ·subst eσ
  push_cast[↓RE,↓RF,↓RG,↓RH,↓RI,↓RJ,↓RK,↓RL]
  exact q _ s1
theorem yE(h:GP K a vs H Q E):vs.length=2:=by
 obtain⟨_,_,_,_,_,_,_,rfl,_⟩:=h
 rfl
theorem yF(h:GQ K a vs H Q E):RN K a (λ_=>E) (BB Q) (A8 ["self","hold","block"] vs) H:=by
 obtain⟨x,dx,t,A,w,rows,n,cs,outs,rfl,⟨T,TP,X⟩,B,hr,hx,q⟩:=h
 obtain⟨db,hb⟩:=B.bk.ob
 push_cast[RN,↓sR,↓sS,↓sT]
 refine⟨_,_,_,hx,X.cl,X.nT,_,List.lookup_cons_self,_,_,hb,B0 (by decide +kernel),A,w,rows,n,cs,outs,rfl,T,TP,B,?_⟩
 push_cast[]
 refine⟨by omega,_,_,_,hx,X.cl,X.nT,_,List.lookup_cons_self,?_⟩
 push_cast[]
 exact⟨_,_,hx,by simp,q⟩
theorem yG(h:GQ K a vs H Q E):vs.length=2:=by
 obtain⟨_,_,_,_,_,_,_,_,_,rfl,_⟩:=h
 rfl
theorem BookAt.kept{H':Hp}{A:BA}{w:Nat}{rows:List (List V)}{n:Nat}{cs:List Ch}{outs:Int->Bool}(B:A1 a H A w rows n cs outs)(k:∀ x o,H x=some o->(∀ C dx fs,o=.ins C dx fs->2<=fs.length)->H' x=some o):A1 a H' A w rows n cs outs:=by
 obtain⟨⟨⟨dx,e1⟩,⟨chs,e2,e3⟩,e4,e5,e6,⟨kvs,e7,e8⟩,⟨kvo,e9,e10⟩,r1,r2,r3,r4,r5⟩,⟨⟨dp,p1⟩,⟨ts,p2,p3⟩,p4,p5,p6⟩,nb⟩:=B
 have no:∀ {o:HO},(∀ C dx fs,o≠.ins C dx fs)->∀ C dx fs,o=.ins C dx fs->2<=fs.length:=λh C dx fs e=>absurd e (h C dx fs)
 refine⟨⟨⟨dx,k _ _ e1 λC dx fs e=>by cases e;simp[bf]⟩,⟨chs,k _ _ e2 (no λ_ _ _ z=>by cases z),Paired.mapP e3 λx c h=> ?_⟩,k _ _ e4 (no λ_ _ _ z=>by cases z),λi l h=>k _ _ (e5 i l h) (no λ_ _ _ z=>by cases z),e6,⟨kvs,k _ _ e7 (no λ_ _ _ z=>by cases z),e8⟩,⟨kvo,k _ _ e9 (no λ_ _ _ z=>by cases z),e10⟩,r1,r2,r3,r4,r5⟩,
  ⟨⟨dp,k _ _ p1 λC dx fs e=>by cases e;simp[pf]⟩,⟨ts,k _ _ p2 (no λ_ _ _ z=>by cases z),Paired.mapP p3 λt r e=>k _ _ e (no λ_ _ _ z=>by cases z)⟩,p4,p5,p6⟩,nb⟩
 obtain⟨dx,pl,nt,c1,c2,c3⟩:=h
 exact⟨dx,pl,nt,k _ _ c1 λC dx fs e=>by cases e;simp[DQ],k _ _ c2 (no λ_ _ _ z=>by cases z),k _ _ c3 (no λ_ _ _ z=>by cases z)⟩
theorem BroomAt.few{x:Addr}{kind t:Nat}(h:BroomAt a H x kind t):∃ C dx fs,H x=some (.ins C dx fs)/\fs.length<=1:=by
 match kind with
 | 0=>obtain⟨dx,e⟩:=h;exact⟨_,_,_,e,by simp⟩
 | 1=>obtain⟨dx,e⟩:=h;exact⟨_,_,_,e,by simp⟩
 | j+2=>obtain⟨dx,e⟩:=h;exact⟨_,_,_,e,by simp⟩
theorem BroomAt.keep{H':Hp}{x:Addr}{kind t:Nat}(h:BroomAt a H x kind t)(k:∀ o,H x=some o->H' x=some o):BroomAt a H' x kind t:=by
 match kind with
 | 0=>obtain⟨dx,e⟩:=h;exact⟨_,k _ e⟩
 | 1=>obtain⟨dx,e⟩:=h;exact⟨_,k _ e⟩
 | j+2=>obtain⟨dx,e⟩:=h;exact⟨_,k _ e⟩
theorem BookAt.br{H':Hp}{A:BA}{w:Nat}{rows:List (List V)}{n:Nat}{cs:List Ch}{outs:Int->Bool}{x:Addr}{kind t:Nat}(B:A1 a H A w rows n cs outs)(h:BroomAt a H x kind t)(s:SameBut (· =x) H H'):A1 a H' A w rows n cs outs :=
 B.kept λy o e two=>s _ _ e λz=>by
  obtain⟨C,dx,fs,e',l⟩:=h.few
  rw[z,e']at e
  cases e
  have:=two _ _ _ rfl
  omega
theorem BroomAt.noW{A:BA}{w:Nat}{rows:List (List V)}{n:Nat}{cs:List Ch}{outs:Int->Bool}{x:Addr}{kind t:Nat}(h:BroomAt a H x kind t)(B:A1 a H A w rows n cs outs):¬ A.W x:=by
 obtain⟨C,dx,fs,e,l⟩:=h.few
 rintro (f | f)
 ·exact(B.loose f).2 _ _ _ e
 ·obtain⟨dp,p1⟩:=B.pk.ob
  rw[f,p1]at e
  cases e
  simp[pf]at l
theorem cL{br:Addr}{kind t:Nat}{A:BA}{w:Nat}{rows:List (List V)}{n:Nat}{cs:List Ch}{outs:Int->Bool}{QC:VK}(TT:D1 K a)(B:A1 a H A w rows n cs outs)(h:BroomAt a H br kind t)(hr:1<=rows.length)(hr':rows.length<=1000)(hw:kind=0->AX cs.length outs≠[])
  (q:∀ H',BroomAt a H' br kind (t+1)->SameBut (· =br) H H'->A1 a H' A w rows n cs outs->QC (.int (DF kind cs outs rows.length t)) H') :
  (∃ dx fs,H br=some (.ins (a "Broom") dx fs)/\fs.lookup (Str.ofString "chosen")=none/\GO K a [.ref br,.ref A.b] H QC E)\/(∃ dx fs,H br=some (.ins (a "Fullest") dx fs)/\fs.lookup (Str.ofString "chosen")=none/\GP K a [.ref br,.ref A.b] H QC E)\/∃ dx fs,H br=some (.ins (a "Round") dx fs)/\fs.lookup (Str.ofString "chosen")=none/\GQ K a [.ref br,.ref A.b] H QC E:=by
 match kind with
 | 0 =>
  obtain⟨dx,e⟩:=h
  exact .inl ⟨_,_,e,rfl,_,A,w,rows,n,cs,outs,rfl,TT.1,B,hw rfl,λH' s=>q _ ⟨dx,s _ _ e⟩ s.sb (B.same s)⟩
 | 1 =>
  obtain⟨dx,e⟩:=h
  exact .inr (.inl ⟨_,_,e,rfl,_,A,w,rows,n,cs,outs,rfl,TT.1,TT.2.1,B,hr',λH' s=>q _ ⟨dx,s _ _ e⟩ s.sb (B.same s)⟩)
 | j+2 =>
  obtain⟨dx,e⟩:=h
  have s:SameBut (· =br) H (upd H br (.ins (a "Round") dx [("turns",.int (t+1:Nat))])):=λy o e n=>by rw[AH n];exact e
  exact .inr (.inr ⟨_,_,e,by simp[List.lookup,show((Str.ofString "chosen") ==(Str.ofString "turns"))=false from by decide +kernel],br,dx,t,A,w,rows,n,cs,outs,rfl,TT,B,hr,e,q _ ⟨dx,AK⟩ s (B.br (kind:=j+2) ⟨dx,e⟩ s)⟩)
theorem yH{kind m:Nat}{cs:List Ch}{outs:Int->Bool}{t i:Nat}:BI (DG kind m cs outs t (i+1))=BI (DG kind m cs outs t i)++[.int (D9 kind m cs outs t i)]:=by
 unfold BI DG
 rw[List.range_succ]
 simp
theorem HH{kind m:Nat}{cs:List Ch}{outs:Int->Bool}{t:Nat}{rows:List (List V)}:∀ i,(CV kind m cs outs t rows i).length=rows.length
 | 0=>rfl
 | i+1=>by
  show((CV kind m cs outs t rows i).set _ _).length=_
  rw[List.length_set]
  exact HH i
def cM(a:Ad)(H:Hp)(br:Addr)(kind t:Nat)(A:BA)(w:Nat)(rows:List (List V))(n:Nat)(cs:List Ch)(outs:Int->Bool)(l:Addr)(i:Nat)(H':Hp):Prop :=
 H' l=some (.lst (BI (DG kind rows.length cs outs t i)))/\A1 a H' A w (CV kind rows.length cs outs t rows i) (n+i) cs (CU kind rows.length cs outs t i)/\BroomAt a H' br kind (t+i)/\SameBut (λx=>A.W x\/x=br) H H'/\(∀ j,j<i->AX cs.length (CU kind rows.length cs outs t j)≠[])/\i+EX kind rows.length cs (CU kind rows.length cs outs t i) (t+i)<=cs.length * rows.length+rows.length
theorem yI(h:IN K a vs H Q E):RR K a (λ_=>E) (BB Q) (A8 ["hold","broom","row","block"] vs) H:=by
 obtain⟨br,kind,t,A,w,rows,n,cs,outs,rfl,TT,B,hr,hr',hcs,hbr,hk,q⟩:=h
 push_cast[RR,↓tE]
 refine⟨by decide,λl hl=> ?_⟩
 push_cast[↓tI]
 have s0:=AW (o:=.lst []) hl
 have inn:∀ c∈cs,c.blk<rows.length:=λc hc=>by rw[<-B.nb];exact(B.bk.inn c hc).1
 have need:LH cs:=λk c e=>(B.bk.need k c e).1
 have nm:cs.length * rows.length<=90 * 10:=Nat.mul_le_mul hcs hr'
 refine⟨λm σ H'=>∃ i,m=EX kind rows.length cs (CU kind rows.length cs outs t i) (t+i)/\cM a H br kind t A w rows n cs outs l i H'/\∃ y,σ=[some (.ref A.b),some (.ref br),some (.ref l),y],⟨_,0,rfl,⟨AK,B.same s0,hbr.keep λo e=>s0 _ _ e,s0.sb,λj hj=>absurd hj (Nat.not_lt_zero j),by rw[Nat.zero_add];exact xX hr inn⟩,_,rfl⟩,?_⟩
 rintro m σ H1 ⟨i,em,⟨e1,B1,br1,s1,w1,b1⟩,y,rfl⟩
 obtain⟨dx,hb⟩:=B1.bk.ob
 push_cast[]
 refine⟨_,_,hb,B0 (by decide +kernel),A,w,_,_,cs,_,rfl,TT.1,B1,λwl H2 hwl s2 ewl=>⟨!(BI (AX cs.length (CU kind rows.length cs outs t i))).isEmpty,.inl ⟨_,SqL.of ewl,rfl⟩,?_⟩⟩
 have B2:=B1.same s2
 have e2:=s2 _ _ e1
 have br2:=br1.keep λo e=>s2 _ _ e
 have nlB:¬ A.W l:=λf=>by
  rcases f with f | f
  ·exact B.off hl f
  ·obtain⟨dp,p1⟩:=B.pk.ob
   rw[<-f,hl]at p1;cases p1
 have nlbr:l≠br:=λf=>by
  obtain⟨C,dx,fs,e,_⟩:=hbr.few
  rw[<-f,hl]at e;cases e
 by_cases hw:AX cs.length (CU kind rows.length cs outs t i)=[]
 ·rw[hw,if_neg (by simp[BI])]
  push_cast[↓tJ]
  exact q l i H2 ⟨w1,hw⟩ (by omega) hl e2 B2 br2 (s1.trans s2.sb)
 ·rw[if_pos (by
   cases e:AX cs.length (CU kind rows.length cs outs t i)with
   | nil=>exact absurd e hw
   | cons _ _=>simp[BI])]
  refine⟨λσ' H'=>(∃ y,σ'=[some (.ref A.b),some (.ref br),some (.ref l),y])/\cM a H br kind t A w rows n cs outs l (i+1) H',λσ' H' ⟨⟨y,eσ⟩,I⟩=>⟨_,?_,i+1,rfl,I,y,eσ⟩,?_⟩
  ·rw[em]
   exact cK hr inn need hw
  push_cast[↓tF]
  refine cL TT B2 br2 (by rw[HH];exact hr) (by rw[HH];omega) (λ_=>hw) λH3 br3 s3 B3=> ?_
  rw[HH]
  push_cast[↓tG,↓tH]
  obtain⟨dx3,hb3⟩:=B3.bk.ob
  have dlt:=cJ (kind:=kind) (outs:=CU kind rows.length cs outs t i) (t:=t+i) hr inn
  refine⟨_,_,hb3,B0 (by decide +kernel),A,w,_,_,cs,_,_,rfl,TT.1,TT.2.1,B3,λb' row tt ol hl4 H4 eb er _ _ _ _ B4 s4=> ?_,λz=> ?_⟩
  ·have eb:b'=D9 kind rows.length cs outs t i:=by show b'=DF _ _ _ _ _;omega
   subst eb
   have eg:(CV kind rows.length cs outs t rows i).getD (D9 kind rows.length cs outs t i) []=row:=by rw[List.getD_eq_getElem?_getD,er];rfl
   rw[<-eg]at B4
   have e3:=s3 _ _ e2 nlbr
   have e4:=s4 _ _ e3 nlB
   have br4:=br3.keep (H':=H4) λo e=>s4 _ _ e (br3.noW B3)
   have tl:(BI (DG kind rows.length cs outs t i)).length=i:=by simp[BI,DG]
   refine⟨.inl ⟨rfl,_,SqL.of e4⟩,l,_,_,rfl,rfl,e4,Nat.lt_of_lt_of_le (show(BI (DG kind rows.length cs outs t i)).length<1000 by rw[tl];omega) (by decide),?_⟩
   have s5:SameBut (· =l) H4 (upd H4 l (.lst (BI (DG kind rows.length cs outs t i)++[.int (D9 kind rows.length cs outs t i)]))):=λy o e n=>by rw[AH n];exact e
   refine⟨by rw[yH];exact AK,B4.sb s5 (λx hx=>hx ▸ G7 e4) (λx hx f=>nlB (.inl (hx ▸ f))),br4.keep λo e=>s5 _ _ e nlbr.symm,λy o e ny=> ?_,λj hj=> ?_,?_⟩
   ·have e3:=s3 _ _ (s2 _ _ (s1 _ _ e ny)) λz=>ny (.inr z)
    exact s5 _ _ (s4 _ _ e3 λz=>ny (.inl z)) (AY e hl)
   ·rcases Nat.lt_or_eq_of_le (Nat.le_of_lt_succ hj)with hj | hj
    ·exact w1 j hj
    ·rw[hj];exact hw
   ·have:=cK (kind:=kind) (t:=t+i) hr inn need hw
    show i+1+EX kind rows.length cs (C3 cs _ _) (t+i+1)<=_
    omega
  ·rw[HH]at z
   omega
theorem yJ(h:IN K a vs H Q E):vs.length=2:=by
 obtain⟨_,_,_,_,_,_,_,_,_,rfl,_⟩:=h
 rfl
theorem GR{c A B:Prop}[Decidable c](h:c)(x:A):if c then A else B:=by rw[if_pos h];exact x
theorem CC{c A B:Prop}[Decidable c](h:¬ c)(x:B):if c then A else B:=by rw[if_neg h];exact x
def EO(cs:List Ch)(outs:Int->Bool)(b:Nat)(s:Pass)(k:Nat):Pass:=if((cs[k]?).any λc=>c.blk == b)=true then BV cs outs s k else s
theorem SC{cs:List Ch}{outs:Int->Bool}:∀ (l:List Nat) (s:Pass),l.foldl (BV cs outs) s=(l.filter λ(k:Nat)=> !outs k).foldl (BV cs outs) s
 | [],_=>rfl
 | k::r,s=>by
  cases h:outs k with
  | true =>
   rw[List.filter_cons_of_neg (by rw[h];simp),List.foldl_cons]
   have:BV cs outs s k=s:=by unfold BV;rw[h];rfl
   rw[this]
   exact SC r s
  | false =>
   rw[List.filter_cons_of_pos (by rw[h];rfl),List.foldl_cons,List.foldl_cons]
   exact SC r _
theorem yK(cs:List Ch)(outs:Int->Bool)(b:Nat):outcome cs outs (λ_=>false) b=(AX cs.length outs).foldl (EO cs outs b) ⟨[],[],λ_=>false⟩:=by
 unfold outcome EO
 rw[SC,PM,List.filter_filter]
 unfold AX
 rw[List.foldl_filter,List.foldl_filter]
 congr 1
 funext s k
 by_cases h:outs k=true
 ·simp[h]
 ·simp only[Bool.not_eq_true]at h
  simp[h]
theorem cN{cs:List Ch}{outs:Int->Bool}{b:Nat}:∀ (l:List Nat) (s:Pass) (x:Int),(l.foldl (EO cs outs b) s).gone x=true->s.gone x=true\/∃ k∈l,x=(k:Int)
 | [],_,_,h=>.inl h
 | k::r,s,x,h=>by
  rw[List.foldl_cons]at h
  rcases cN r _ x h with z | ⟨k',hk,e⟩
  ·unfold EO at z
   split at z
   ·rcases WX (cs:=cs) (outs:=outs) s k with e | ⟨_,e⟩ | ⟨l',e⟩
    ·rw[e]at z;exact .inl z
    ·rw[e]at z
     rcases Bool.or_eq_true_iff.mp z with z | z
     ·exact .inl z
     ·exact .inr ⟨k,List.mem_cons_self,eq_of_beq z⟩
    ·rw[e]at z;exact .inl z
   ·exact .inl z
  ·exact .inr ⟨k',List.mem_cons_of_mem _ hk,e⟩
theorem SD{l:List Nat}{x:Int}:(l.any λ(k:Nat)=>x ==(k:Int))=true↔∃ k∈l,x=(k:Int):=by
 rw[List.any_eq_true]
 exact⟨λ⟨k,h,e⟩=>⟨k,h,eq_of_beq e⟩,λ⟨k,h,e⟩=>⟨k,h,by rw[e];simp⟩⟩
def yL(H:Hp)(L wl lf:Addr)(b:Nat)(ws:List Nat)(i:Nat)(σ:St)(H':Hp):Prop:=Same H H'/\(∃ kvs:List (AS × V),H' lf=some (.dK kvs)/\(∀ x:Int,BJ kvs x=(ws.take i).any λ(k:Nat)=>x ==(k:Int))/\kvs.length<=i)/\∃ y,σ=[some (.ref L),some (.ref wl),some (.int b),some (.ref lf),y,none]
def yM(H:Hp)(L wl lf:Addr)(b:Nat)(ws:List Nat)(p:Pass)(σ:St)(H':Hp):Prop:=Same H H'/\(∃ kvs:List (AS × V),H' lf=some (.dK kvs)/\∀ x:Int,BJ kvs x=((ws.any λ(k:Nat)=>x ==(k:Int)) && !p.gone x))/\∃ y,σ=[some (.ref L),some (.ref wl),some (.int b),some (.ref lf),y,some (.int p.out.length)]
theorem yN(kvs:List (AS × V))(k x:Int):BJ (D5 kvs (.inl k)) x=(BJ kvs x && !(x == k)):=by
 unfold BJ
 induction kvs with
 | nil=>simp[D5,hE]
 | cons p r ih =>
  by_cases e:p.1=Sum.inl k
  ·rw[iM e,ih]
   by_cases e2:p.1=Sum.inl x
   ·have:x=k:=by rw[e]at e2;exact(Sum.inl.inj e2).symm
    subst this
    simp
   ·rw[DX e2]
  ·rw[iN e]
   by_cases e2:p.1=Sum.inl x
   ·have:¬ x=k:=λz=>e (z ▸ e2)
    rw[D6 e2,D6 e2]
    simp[this]
   ·rw[DX e2,DX e2,ih]
theorem NN{α β :Type}{F: α -> β ->Prop}:∀ {l:List α} {m:List β} {i:Nat} {y: β},Paired F l m->m[i]? =some y->∃ x,l[i]? =some x/\F x y
 | _,_,_,_,.nil,e=>by simp at e
 | _,_,0,_,.cons h _,e=>by cases e;exact⟨_,rfl,h⟩
 | _,_,i+1,_,.cons _ r,e=>by simpa using NN r e
theorem yO (h:LA K a vs H Q E):QT K a (λ_=>E) (BB Q) (A8 ["changes","waiting","block","left","number","many"] vs) H:=by
  obtain⟨L,wl,b,cs,outs,F,rfl,⟨tl,hL,own⟩,hwl,hcs,need,q⟩:=h
  push_cast[QT,↓rM]
  refine λlf hlf=> ?_
  have s0:=AW (o:=.dK []) hlf
  have e0:upd H lf (.dK []) lf=some (.dK []):=AK
  revert s0 e0
  generalize upd H lf (.dK [])=H0
  intro s0 e0
  have wlen:=cH cs.length outs
  have kp:∀ {H':Hp} {o:HO},Same H H'->Same H (upd H' lf o):=λs y u e=>by rw[AH (AY e hlf)];exact s _ _ e
  push_cast[↓rO]
  refine .inl ⟨⟨_,SqL.of (s0 _ _ hwl)⟩,E9 (xs:=BI (AX cs.length outs)) (yL H L wl lf b (AX cs.length outs)) ⟨s0,⟨[],e0,λ_=>rfl,Nat.le_refl _⟩,_,rfl⟩ (λi σ H' _ ⟨s,_⟩=>SqL.of (s _ _ hwl)) (λi v σ H' hx ⟨s,⟨kvs,e1,hk,hl⟩,y,eσ⟩=> ?_) (λσ H' ⟨s,⟨kvs,e1,hk,hl⟩,y,eσ⟩=> ?_)⟩
  · subst eσ
    have hi:=(List.getElem?_eq_some_iff.mp hx).1
    unfold BI at hx hi
    rw[List.getElem?_map,Option.map_eq_some_iff]at hx
    obtain⟨k,hk',rfl⟩:=hx
    rw[List.length_map]at hi
    push_cast[↓rN]
    refine⟨_,pI e1 (by omega),kp s,⟨_,AK,λx=> ?_,?_⟩,_,rfl⟩
    · rw[SB,hk,List.take_add_one,hk',List.any_append]
      simp
    · have:=IC kvs (.inl (k:Int)) (.bl true)
      omega
  · subst eσ
    push_cast[↓rP,↓rT]
    have hk:∀ x:Int,BJ kvs x=(AX cs.length outs).any λ(k:Nat)=>x ==(k:Int):=λx=>by rw[hk x];unfold BI;rw[List.length_map,List.take_length]
    refine .inl ⟨⟨_,SqL.of (s _ _ hwl)⟩,E9 (xs:=BI (AX cs.length outs)) (λi=>yM H L wl lf b (AX cs.length outs) (((AX cs.length outs).take i).foldl (EO cs outs b) ⟨[],[],λ_=>false⟩)) ⟨s,⟨kvs,e1,λx=>by rw[hk x];simp⟩,_,rfl⟩ (λi σ H' _ ⟨s,_⟩=>SqL.of (s _ _ hwl)) (λi v σ H' hx ⟨s,⟨kvs,e1,hk⟩,y,eσ⟩=> ?_) (λσ H' ⟨s,⟨kvs,e1,hk⟩,y,eσ⟩=> ?_)⟩
    · subst eσ
      unfold BI at hx
      rw[List.getElem?_map,Option.map_eq_some_iff]at hx
      obtain⟨k,hk',rfl⟩:=hx
      have hkw:=IY (List.mem_of_getElem? hk')
      have ec:=List.getElem?_eq_getElem hkw.1
      revert ec
      generalize cs[k]=c
      intro ec
      obtain⟨t,et,pl,nl,ns,h1,h2,h3,h4,h5,h6⟩:=NN own ec
      have es:=PL (EO cs outs b) (⟨[],[],λ_=>false⟩:Pass) hk'
      have gk:(((AX cs.length outs).take i).foldl (EO cs outs b) ⟨[],[],λ_=>false⟩).gone k=false:=by
        cases e:(((AX cs.length outs).take i).foldl (EO cs outs b) ⟨[],[],λ_=>false⟩).gone k with
        | false=>rfl
        | true =>
          exfalso
          rcases cN _ _ _ e with z | ⟨k',hk2,e2⟩
          ·cases z
          · have rs:=cG cs.length outs
            obtain⟨g1,g2⟩:=List.getElem?_eq_some_iff.mp hk'
            rw[<-List.take_append_drop i (AX cs.length outs),List.drop_eq_getElem_cons g1,g2]at rs
            have:=(List.pairwise_append.mp rs).2.2 k' hk2 k (List.mem_cons_self ..)
            omega
      dsimp only
      rw[es]
      generalize ((AX cs.length outs).take i).foldl (EO cs outs b) ⟨[],[],λ_=>false⟩=s' at hk gk ⊢
      push_cast[↓rS]
      refine A7 (SqL.of (s _ _ hL)) (n:=k) rfl (by rw[List.getElem?_map,et];rfl) (CI (s _ _ h1) (n:=0) rfl rfl (CI (s _ _ h2) (n:=0) rfl rfl ?_))
      push_cast[]
      have eb:EO cs outs b s' k=if c.blk=b then BV cs outs s' k else s':=by unfold EO;rw[ec];simp
      by_cases hb:c.blk=b
      · rw[if_pos (by rw[hb]),eb,if_pos hb]
        have left:∀ x∈ns,BJ kvs x= !(outs x || s'.gone x):=λx hx=>by
          have hxn:=need k c ec x ((h5 x).mp hx)
          rw[hk]
          have:((AX cs.length outs).any λ(k:Nat)=>x ==(k:Int))= !outs x:=by
            cases o:outs x with
            | true =>
              cases e:(AX cs.length outs).any λ(k:Nat)=>x ==(k:Int)with
              | false=>rfl
              | true =>
                obtain⟨k',hk2,e2⟩:=SD.mp e
                have:=(IY hk2).2
                rw[<-e2,o]at this
                cases this
            | false =>
              refine SD.mpr ⟨x.toNat,SA (by omega) ?_,by omega⟩
              rw[show((x.toNat:Nat):Int)=x by omega]
              exact o
          rw[this]
          simp
        refine A7 (SqL.of (s _ _ hL)) (n:=k) rfl (by rw[List.getElem?_map,et];rfl) (CI (s _ _ h1) (n:=1) rfl rfl ⟨nl,rfl,.inl ⟨⟨_,SqL.of (s _ _ h3)⟩,o8 (λv=>match v with | .int x=>BJ kvs x | _=>false) (G3 _ (by rw[List.length_map];omega)) (SqL.of (s _ _ h3)) (λv hv QB qb=> ?_) λl2 hl2=>⟨Nat.zero_le _,λe3 he3=> ?_⟩⟩⟩)
        · obtain⟨x,_,rfl⟩:=List.mem_map.mp hv
          push_cast[E8]
          exact⟨_,dI e1,qb⟩
        · have ef:(ns.map V.int).filter (λv=>match v with | .int x=>BJ kvs x | _=>false)=(ns.filter λx=>BJ kvs x).map V.int:=by
            rw[List.filter_map];rfl
          rw[ef]at he3 ⊢
          have s3:Same H' (upd (upd H' l2 (.lst ((ns.filter λx=>BJ kvs x).map V.int))) e3 (.lst [])):=(AW hl2).trans (AW he3)
          have el2:upd (upd H' l2 (.lst ((ns.filter λx=>BJ kvs x).map V.int))) e3 (.lst []) l2=some (.lst ((ns.filter λx=>BJ kvs x).map V.int)):=AW he3 _ _ AK
          have ee3:upd (upd H' l2 (.lst ((ns.filter λx=>BJ kvs x).map V.int))) e3 (.lst []) e3=some (.lst []):=AK
          revert s3 el2 ee3
          generalize upd (upd H' l2 (.lst ((ns.filter λx=>BJ kvs x).map V.int))) e3 (.lst [])=H4
          intro s3 el2 ee3
          refine O5 (n:=1) (by decide) (SqL.of el2) (FT _) (SqL.of ee3) ?_
          have e4:=s3 _ _ e1
          have s4:=s.trans s3
          have lk:FC c.nd (λx=>outs x || s'.gone x)=none↔(ns.filter λx=>BJ kvs x).map V.int=[]:=by
            rw[List.map_eq_nil_iff,List.filter_eq_nil_iff]
            constructor
            · intro h x hx
              rw[left x hx]
              have:=List.find?_eq_none.mp h x ((h5 x).mp hx)
              simpa using this
            · intro h
              refine List.find?_eq_none.mpr λx hx=> ?_
              have:=h x ((h5 x).mpr hx)
              rw[left x ((h5 x).mpr hx)]at this
              simpa using this
          push_cast[]
          have ep:BV cs outs s' k=match FC c.nd λx=>outs x || s'.gone x with
              | none=>⟨s'.out++[k],s'.held,λx=>s'.gone x || x ==(k:Int)⟩
              | some l=>⟨s'.out,s'.held++[(k,l)],s'.gone⟩:=by
            unfold BV
            rw[hkw.2,gk,ec]
            rfl
          cases el:FC c.nd (λx=>outs x || s'.gone x)with
          | none =>
            rw[el]at ep
            rw[ep]
            refine GR (lk.mp el) ?_
            push_cast[↓rQ,OH]
            have hv:(BC kvs (.inl (k:Int))).isSome=true:=by
              have:=hk k
              rw[gk,SD.mpr ⟨k,List.mem_of_getElem? hk',rfl⟩]at this
              exact this
            obtain⟨v,ev⟩:=Option.isSome_iff_exists.mp hv
            refine⟨.inl ⟨_,.inl e4⟩,_,e4,.inl (k:Int),rfl,⟨v,ev⟩,?_⟩
            refine⟨kp s4,⟨_,AK,λx=> ?_⟩,by simp⟩
            rw[yN,hk]
            simp[Bool.not_or,Bool.and_assoc]
          | some x0 =>
            rw[el]at ep
            rw[ep]
            refine CC (λz=>by have:=lk.mpr z;rw[el]at this;cases this) ?_
            exact⟨s4,⟨kvs,e4,hk⟩,_,rfl⟩
      · rw[if_neg (by omega),eb,if_neg hb]
        exact⟨s,⟨kvs,e1,hk⟩,_,rfl⟩
    · subst eσ
      push_cast[↓rV]
      have:BS cs outs b=(((AX cs.length outs).take (BI (AX cs.length outs)).length).foldl (EO cs outs b) ⟨[],[],λ_=>false⟩).out.length:=by
        unfold BS BI
        rw[yK,List.length_map,List.take_length]
      rw[<-this]
      exact q _ s
theorem yP(h:LA K a vs H Q E):vs.length=3:=by
 obtain⟨_,_,_,_,_,_,rfl,_⟩:=h
 rfl
theorem OwnL.same{F:Addr->Prop}{H':Hp}{L:Addr}{cs:List Ch}(h:OwnL F H L cs)(s:Same H H'):OwnL F H' L cs:=by
 obtain⟨tl,e,p⟩:=h
 exact⟨tl,s _ _ e,Paired.mapP p λt c ⟨pl,nl,ns,h1,h2,h3,h4⟩=>⟨pl,nl,ns,s _ _ h1,s _ _ h2,s _ _ h3,h4⟩⟩
theorem yQ(h:LB K a vs H Q E):RD K a (λ_=>E) (BB Q) (A8 ["changes","waiting","blocks","goes"] vs) H:=by
 obtain⟨L,wl,m,cs,outs,F,rfl,own,hwl,hcs,need,hm,hm',q⟩:=h
 push_cast[RD,↓sP]
 refine⟨by omega,by omega,OS (G3 m (by omega)) (λi ys H'=>Same H H'/\ys=((List.range i).map λ(j:Nat)=>(BS cs outs j:Int)).map V.int) ⟨Same.refl _,rfl⟩ (λi ys H' hi _ ⟨s,e⟩=> ?_) (λys H' _ ⟨s,e⟩ g hg=> ?_)⟩
 ·push_cast[E8,Int.zero_add]
  refine⟨L,wl,i,cs,outs,F,rfl,own.same s,s _ _ hwl,hcs,need,λH2 s2=>⟨s.trans s2,?_⟩⟩
  rw[e,List.range_succ]
  simp
 ·subst e
  push_cast[↓sQ]
  have sg:=AW (o:=.lst (((List.range m).map λ(j:Nat)=>(BS cs outs j:Int)).map V.int)) hg
  refine⟨.inl ⟨rfl,_,SqL.of AK⟩,pU (SqL.of AK) (λz=> ?_) λk hk top=> ?_⟩
  ·have:=congrArg List.length z
   simp at this
   omega
  ·refine⟨g,_,k,rfl,rfl,SqL.of AK,hk,by simp;omega,?_⟩
   rw[xS hm hk top]
   exact q _ (s.trans sg)
theorem yR(h:LB K a vs H Q E):vs.length=3:=by
 obtain⟨_,_,_,_,_,_,rfl,_⟩:=h
 rfl
theorem yS(h:HF K a vs H Q E):RQ K a (λ_=>E) (BB Q) (A8 ["kind","changes","waiting","blocks","turns"] vs) H:=by
 obtain⟨kind,L,wl,m,t,cs,outs,F,rfl,own,hwl,hcs,need,hm,hm',hw,hk,q⟩:=h
 push_cast[RQ,↓sX]
 by_cases k0:kind=0
 ·subst k0
  refine GR rfl ?_
  cases e:AX cs.length outs with
  | nil=>exact absurd e hw
  | cons k r =>
   rw[e]at hwl
   have hk:=IY (show k∈AX cs.length outs by rw[e];exact List.mem_cons_self)
   have ec:=List.getElem?_eq_getElem hk.1
   revert ec
   generalize cs[k]=c
   intro ec
   obtain⟨tl,hL,pr⟩:=own
   obtain⟨tt,et,pl,nl,ns,h1,h2,h3,_⟩:=NN pr ec
   push_cast[↓sW]
   refine A7 (SqL.of hwl) (n:=0) (v:=.int k) rfl rfl (A7 (SqL.of hL) (n:=k) rfl (by rw[List.getElem?_map,et];rfl) (CI h1 (n:=0) rfl rfl (CI h2 (n:=0) rfl rfl ?_)))
   have:DE cs outs=c.blk:=by unfold DE;rw[e];simp only[ec]
   rw[<-this]
   exact q _ (Same.refl _)
 refine CC (by omega) ?_
 push_cast[↓sZ]
 by_cases k1:kind=1
 ·subst k1
  refine GR rfl ?_
  push_cast[↓sY]
  exact⟨L,wl,m,cs,outs,F,rfl,own,hwl,hcs,need,hm,hm',q⟩
 refine CC (by omega) ?_
 push_cast[↓tD]
 refine⟨by omega,?_⟩
 obtain⟨j,rfl⟩:∃ j,kind=j+2:=⟨kind - 2,by omega⟩
 exact q _ (Same.refl _)
theorem yT(h:HF K a vs H Q E):vs.length=5:=by
 obtain⟨_,_,_,_,_,_,_,_,rfl,_⟩:=h
 rfl
theorem yU(h:EN K a vs H Q E):RT K a (λ_=>E) (BB Q) (A8 ["broom","hold","due","found"] vs) H:=by
 obtain⟨br,kind,t,A,w,rows,n,cs,outs,rfl,TT,B,hbr,hk,hr,hr',hw,q⟩:=h
 push_cast[RT,↓tS]
 refine cL TT B hbr hr hr' hw λH' b' s' B'=> ?_
 push_cast[↓tT]
 refine FS (.inl (.int _)) (.ty _) (b:=true) rfl ⟨true,rfl,GR rfl (FS (.inl (.int _)) (.ty _) (b:=false) rfl ?_)⟩
 push_cast[]
 exact q _ b' s' B'
theorem yV(h:EN K a vs H Q E):vs.length=3:=by
 obtain⟨_,_,_,_,_,_,_,_,_,rfl,_⟩:=h
 rfl
theorem GS{A:BA}{w:Nat}{rows:List (List V)}{n:Nat}{cs:List Ch}{outs:Int->Bool}(B:A1 a H A w rows n cs outs){x:Addr}(h:A.W x)(xs:List V):H x≠some (.tup xs):=by
 rcases h with h | h
 ·exact(B.loose h).1 xs
 ·obtain⟨dp,e⟩:=B.pk.ob
  rw[h,e]
  intro z;cases z
theorem EB{A:BA}{w:Nat}{rows:List (List V)}{n:Nat}{cs:List Ch}{outs:Int->Bool}(B:A1 a H A w rows n cs outs){x:Addr}(h:H x=none):¬ A.W x:=by
 rintro (f | f)
 ·exact B.off h f
 ·obtain⟨dp,e⟩:=B.pk.ob
  rw[f,e]at h;cases h
theorem OwnL.sb{F G:Addr->Prop}{H':Hp}{L:Addr}{cs:List Ch}(h:OwnL F H L cs)(s:SameBut G H H')(g:∀ x,G x->F x)(nL:¬ G L)(tk:∀ x,G x->∀ xs,H x≠some (.tup xs)):OwnL F H' L cs:=by
 obtain⟨tl,e,p⟩:=h
 exact⟨tl,s _ _ e nL,Paired.mapP p λt c ⟨pl,nl,ns,h1,h2,h3,h4,h5⟩=>⟨pl,nl,ns,s _ _ h1 λz=>tk _ z _ h1,s _ _ h2 λz=>tk _ z _ h2,s _ _ h3 λz=>h4 (g _ z),h4,h5⟩⟩
theorem SE(l:List Nat):∃ ds,Paired (Dat K H 1) (BI l) ds:=⟨_,by rw[cI];exact FT _⟩
theorem yW(h:LD K a vs H Q E):RU K a (λ_=>E) (BB Q) (A8 ["told","kind","hold","changes","size","turns","block","waiting"] vs) H:=by
 obtain⟨tl,L,z,kind,t,N,A,w,rows,n,cs,outs,F,rfl,TT,B,hr,hr',hcs,own,hF,nL,ntl,hz,hk,⟨sw,sw'⟩,hN,htl,q⟩:=h
 have inn:∀ c∈cs,c.blk<rows.length:=λc hc=>by rw[<-B.nb];exact(B.bk.inn c hc).1
 have need:LH cs:=λk c e=>(B.bk.need k c e).1
 have tlen:(BI (DG kind rows.length cs outs t N)).length=N:=by simp[BI,DG]
 push_cast[RU,↓t4]
 refine .inl ⟨⟨_,SqL.of htl⟩,E9 (xs:=BI (DG kind rows.length cs outs t N)) (λi σ H'=>(A1 a H' A w (CV kind rows.length cs outs t rows i) (n+i) cs (CU kind rows.length cs outs t i)/\SameBut A.W H H')/\∃ y6 y7,σ=[some (.ref tl),some (.int kind),some (.ref A.b),some (.ref L),some (.ref z),some (.int (t+i:Nat)),y6,y7]) ⟨⟨B,SameBut.refl _⟩,_,_,rfl⟩ (λi σ H' _ ⟨⟨_,s⟩,_⟩=>SqL.of (s _ _ htl ntl)) (λi v σ H1 hx ⟨⟨B1,s1⟩,y6,y7,eσ⟩=> ?_) (λσ H1 ⟨⟨B1,s1⟩,y6,y7,eσ⟩=> ?_)⟩
 ·subst eσ
  have hi:=(List.getElem?_eq_some_iff.mp hx).1
  rw[tlen]at hi
  have ev:v=.int (D9 kind rows.length cs outs t i):=by
   unfold BI DG at hx
   rw[List.getElem?_map,List.getElem?_map,List.getElem?_range hi]at hx
   exact(Option.some.inj hx).symm
  subst ev
  obtain⟨dx1,hb1⟩:=B1.bk.ob
  push_cast[↓tU]
  refine⟨_,_,hb1,B0 (by decide +kernel),A,w,_,_,cs,_,rfl,TT.1,B1,λwl H2 hwl s2 ewl=> ?_⟩
  push_cast[↓tW]
  refine⟨by decide,λe0 he0=> ?_⟩
  have s3:=AW (o:=.lst []) he0
  have ee0:upd H2 e0 (.lst []) e0=some (.lst []):=AK
  revert s3 ee0
  generalize upd H2 e0 (.lst [])=H3
  intro s3 ee0
  obtain⟨ds,hds⟩:=SE (K:=K) (H:=H3) (AX cs.length (CU kind rows.length cs outs t i))
  refine O5 (n:=1) (by decide) (SqL.of (s3 _ _ ewl)) hds (SqL.of ee0) ?_
  have hw:=sw i hi
  have hne:¬ BI (AX cs.length (CU kind rows.length cs outs t i))=[]:=λz=>hw (by unfold BI at z;exact List.map_eq_nil_iff.mp z)
  push_cast[]
  refine CC hne (FS (.inl (.int _)) (.ty _) (b:=true) rfl ⟨true,rfl,CC (by decide) (FS (.inl (.int _)) (.ty _) (b:=false) rfl ⟨false,rfl,CC (by decide) ?_⟩)⟩)
  have B3:=(B1.same s2).same s3
  have s13:SameBut A.W H H3:=(s1.trans s2.sb).trans s3.sb
  have tk:∀ x,A.W x->∀ xs,H x≠some (.tup xs):=λx f xs=>GS B f xs
  have own3:=own.sb s13 hF nL tk
  push_cast[↓tY]
  refine CI (s13 _ _ hz λf=>tk _ f _ hz) (n:=0) rfl rfl ⟨kind,L,wl,rows.length,t+i,cs,_,F,rfl,own3,s3 _ _ ewl,by omega,need,hr,by omega,hw,hk,λH4 s4=> ?_⟩
  push_cast[]
  have B4:=B3.same s4
  refine CC (λz=>z rfl) ?_
  push_cast[↓tZ,↓t3]
  obtain⟨dx4,hb4⟩:=B4.bk.ob
  have dlt:=cJ (kind:=kind) (outs:=CU kind rows.length cs outs t i) (t:=t+i) hr inn
  refine⟨_,_,hb4,B0 (by decide +kernel),A,w,_,_,cs,_,_,rfl,TT.1,TT.2.1,B4,λb' row tt ol hl4 H5 eb er _ _ _ _ B5 s5=> ?_,λz=> ?_⟩
  ·have eb:b'=D9 kind rows.length cs outs t i:=by omega
   subst eb
   have eg:(CV kind rows.length cs outs t rows i).getD (D9 kind rows.length cs outs t i) []=row:=by rw[List.getD_eq_getElem?_getD,er];rfl
   rw[<-eg]at B5
   exact⟨B5,(s13.trans s4.sb).trans s5,rfl⟩
  ·rw[HH]at z
   have:D9 kind rows.length cs outs t i<rows.length:=dlt
   omega
 ·subst eσ
  rw[tlen]at B1
  push_cast[↓t5]
  obtain⟨dx1,hb1⟩:=B1.bk.ob
  refine⟨_,_,hb1,B0 (by decide +kernel),A,w,_,_,cs,_,rfl,TT.1,B1,λwl H2 hwl s2 ewl=>⟨by decide,λe0 he0=> ?_⟩⟩
  have s3:=AW (o:=.lst []) he0
  have ee0:upd H2 e0 (.lst []) e0=some (.lst []):=AK
  revert s3 ee0
  generalize upd H2 e0 (.lst [])=H3
  intro s3 ee0
  obtain⟨ds,hds⟩:=SE (K:=K) (H:=H3) (AX cs.length (CU kind rows.length cs outs t N))
  refine O5 (n:=1) (by decide) (SqL.of (s3 _ _ ewl)) hds (SqL.of ee0) ?_
  rw[sw']
  exact q _ ((B1.same s2).same s3) ((s1.trans s2.sb).trans s3.sb)
theorem yX(h:LD K a vs H Q E):vs.length=6:=by
 obtain⟨_,_,_,_,_,_,_,_,_,_,_,_,_,rfl,_⟩:=h
 rfl
theorem cO{l m:List Int}(h1:l.Pairwise (· <·))(h2:m.Pairwise (· <·))(h:∀ x,x∈l↔x∈m):l=m:=by
 have n1:l.Nodup:=h1.imp λh=>by omega
 have n2:m.Nodup:=h2.imp λh=>by omega
 exact((List.perm_ext_iff_of_nodup n1 n2).mpr h).eq_of_pairwise (λx y _ _ a b=>by omega) h1 h2
theorem yY{p p':Addr}{l:List Int}(h1:H p=some (.lst (l.map V.int)))(h2:H p'=some (.lst (l.map V.int)))(q:Q (.bl false) H):BQ K (.ref p) (.ref p') H Q :=
 WC (n:=2) (by decide) (Dat.lst (SqL.of h1) (FT l)) (Dat.lst (SqL.of h2) (FT l)) q
theorem yZ{p p':Addr}{l:List Int}(h1:H p=some (.lst (l.map V.int)))(h2:H p'=some (.lst (l.map V.int)))(q:Q (.bl true) H):BZ K (.ref p) (.ref p') H Q :=
 WB (n:=2) (by decide) (Dat.lst (SqL.of h1) (FT l)) (Dat.lst (SqL.of h2) (FT l)) q
theorem y0(h:LG K a vs H Q E):R3 K a (λ_=>E) (BB Q) (A8 ["hold","changes","last","number","place"] vs) H:=by
 obtain⟨A,L,la,w,rows,n,cs,outs,F,rfl,⟨T,TP,X⟩,B,⟨tl,hL,own⟩,nL,nla,⟨kvs,hla,hv,hkl,hkk⟩,hcs,hr,hw,q⟩:=h
 have htl:tl.length=cs.length:=own.length
 push_cast[R3,↓vB]
 refine⟨cs.length,.inl ⟨_,SqL.of hL,by rw[List.length_map,htl]⟩,by omega,by omega,?_⟩
 refine FR (λi σ H'=>Same H H'/\∃ y3 y4,σ=[some (.ref A.b),some (.ref L),some (.ref la),y3,y4]) ⟨Same.refl _,_,_,rfl⟩ (λi σ H1 hi ⟨s1,y3,y4,eσ⟩=> ?_) (λσ H1 ⟨s1,y3,y4,eσ⟩=> ?_)
 ·subst eσ
  have ec:=List.getElem?_eq_getElem hi
  revert ec
  generalize cs[i]=c
  intro ec
  obtain⟨t,et,pl,nl,ns,h1,h2,h3,h4,h5,h6⟩:=NN own ec
  have B1:=B.same s1
  obtain⟨dx,hb⟩:=B1.bk.ob
  push_cast[↓vA,Int.zero_add]
  refine⟨_,_,hb,B0 (by decide +kernel),A,w,rows,n,cs,outs,i,rfl,T,B1,λk c' l H2 ek ec' hl s2 el=> ?_,λz=>absurd ⟨by omega,by omega⟩ z⟩
  obtain rfl:i=k:=by omega
  rw[ec]at ec'
  cases ec'
  have s12:=s1.trans s2
  refine A7 (SqL.of (s12 _ _ hL)) (n:=i) rfl (by rw[List.getElem?_map,et];rfl) (CI (s12 _ _ h1) (n:=1) rfl rfl ?_)
  refine⟨nl,rfl,ns,SqL.of (s12 _ _ h3),by omega,λx o D ks hx hD r m ll=> ?_⟩
  have e:ks=c.nd:=cO r (B.bk.need i c ec).2.1 λx=>by rw[m x,h5 x]
  subst e
  have s3:=(AW (o:=o) hx).trans (AW (o:=.lst (c.nd.map V.int)) hD)
  refine yY (s3 _ _ el) AK ?_
  push_cast[]
  exact s12.trans s3
 ·subst eσ
  have B1:=B.same s1
  push_cast[↓vE]
  refine⟨kvs,s1 _ _ hla,λo=> ?_⟩
  have s9:SameBut (· =la) H1 (upd H1 la (.frz o (.dT kvs))):=λy u e ny=>by rw[AH ny];exact e
  have la9:upd H1 la (.frz o (.dT kvs)) la=some (.frz o (.dT kvs)):=AK
  revert s9 la9
  generalize upd H1 la (.frz o (.dT kvs))=H9
  intro s9 la9
  have B9:A1 a H9 A w rows n cs outs:=B1.sb s9 (λx y=>by subst y;exact PJ (s1 _ _ hla)) λx y=>by subst y;exact nla
  refine pR (λi σ H'=>Same H9 H'/\∃ y3 y4,σ=[some (.ref A.b),some (.ref L),some (.ref la),y3,y4]) ⟨Same.refl _,_,_,rfl⟩ (λi σ H' _ ⟨s',_⟩=>s' _ _ la9) (λi b k v σ H' ek eb ⟨s',y3,y4,eσ⟩=> ?_) (λσ H' ⟨s',y3,y4,eσ⟩=> ?_)
  ·subst eσ
   obtain⟨i0,j0,rfl⟩:=hkk _ (List.mem_of_getElem? ek)
   have eb:H' b=some (.tup [.int i0,.int j0]):=eb
   have hval:=hv i0 j0
   have hsome:(BC kvs ([.inl i0,.inl j0]:List AS)).isSome=true:=by
    rw[<-GU]
    exact List.any_eq_true.mpr ⟨_,List.mem_of_getElem? ek,by simp⟩
   cases hnw:D0 cs i0 j0 with
   | none=>rw[hval,hnw]at hsome;cases hsome
   | some n0 =>
    rw[hnw]at hval
    obtain⟨c,ec,cb,cc⟩:=qM hnw
    have B':=B9.same s'
    obtain⟨ib,ic⟩:=B'.bk.inn c (List.mem_of_getElem? ec)
    rw[B'.nb]at ib
    have on:FZ rows w i0 j0:=⟨by omega,by omega,by omega,by omega⟩
    obtain⟨dx,hb⟩:=B'.bk.ob
    push_cast[↓vD]
    refine⟨_,_,hb,B0 (by decide +kernel),A,w,rows,n,cs,outs,b,i0,j0,rfl,T,TP,B',eb,λ_=> ?_,λz=>absurd on z⟩
    rw[hnw]
    refine⟨_,.inr ⟨kvs,[.inl i0,.inl j0],b,.inr ⟨o,s' _ _ la9⟩,rfl,eb,hval.symm⟩,?_⟩
    push_cast[K1]
    exact s'
  ·subst eσ
   have B':=B9.same s'
   obtain⟨dx,hb⟩:=B'.bk.ob
   have L':H' L=some (.lst (tl.map V.ref)):=s' _ _ (s9 _ _ (s1 _ _ hL) (A6 hL hla (by intro z;cases z)))
   push_cast[↓vF]
   refine⟨_,_,hb,B0 (by decide +kernel),by decide,λpl hpl=>⟨by decide,λe0 he0=> ?_⟩⟩
   have s2:=(AW (o:=.tup [.int 0,.int 0]) hpl).trans (AW (o:=.lst []) he0)
   have epl:upd (upd H' pl (.tup [.int 0,.int 0])) e0 (.lst []) pl=some (.tup [.int 0,.int 0]):=AW he0 _ _ AK
   refine⟨A,w,rows,n,cs,outs,pl,e0,.int 7,[],0,0,rfl,T,TP,B'.same s2,epl,SqL.of AK,by simp,by omega,λ_ _ nd H3 r m B3 s3=> ?_,λz=>absurd ⟨by omega,by omega,by omega,by omega⟩ z,λ_ ⟨x,hx,_⟩=>by cases hx⟩
   push_cast[]
   refine⟨cs.length,.inl ⟨_,SqL.of (s3 _ _ (s2 _ _ L') nL),by rw[List.length_map,htl]⟩,?_⟩
   rw[show decide ((cs.length:Int)=(cs.length:Int))=true from by simp]
   exact q _ H3 B3 λy u e ny=>s3 _ _ (s2 _ _ (s' _ _ (s9 _ _ (s1 _ _ e) λz=>ny (.inr z)))) λz=>ny (.inl z)
theorem zA(h:LG K a vs H Q E):vs.length=3:=by
 obtain⟨_,_,_,_,_,_,_,_,_,rfl,_⟩:=h
 rfl
theorem Kept.trans{H H' H2:Hp}(s:Kept H H')(t:Kept H' H2):Kept H H2:=λx o e f=>t x o (s x o e f) f
theorem Same.kept{H H':Hp}(s:Same H H'):Kept H H':=λx o e _=>s x o e
theorem Kept.l{H H':Hp}(s:Kept H H'){x:Addr}{xs:List V}(e:H x=some (.lst xs)):H' x=some (.lst xs):=s _ _ e λ_ _ _ z=>by cases z
theorem Kept.t{H H':Hp}(s:Kept H H'){x:Addr}{xs:List V}(e:H x=some (.tup xs)):H' x=some (.tup xs):=s _ _ e λ_ _ _ z=>by cases z
theorem BroomAt.kp{H H':Hp}{x:Addr}{kind t:Nat}(h:BroomAt a H x kind t)(s:SameBut (· =x) H H'):Kept H H':=λy o e two=>s _ _ e λz=>by
 obtain⟨C,dx,fs,e',l⟩:=h.few
 rw[z,e']at e
 cases e
 have:=two _ _ _ rfl
 omega
theorem OwnL.kept{F:Addr->Prop}{H H':Hp}{L:Addr}{cs:List Ch}(h:OwnL F H L cs)(s:Kept H H'):OwnL F H' L cs:=by
 obtain⟨tl,e,p⟩:=h
 exact⟨tl,s.l e,Paired.mapP p λt c ⟨pl,nl,ns,h1,h2,h3,h4⟩=>⟨pl,nl,ns,s.t h1,s.t h2,s.l h3,h4⟩⟩
theorem Four.same{H H':Hp}{b0 b1 b2 b3:Addr}{t0 t1:Nat}(F:Four a H b0 b1 b2 b3 t0 t1)(s:Same H H'):Four a H' b0 b1 b2 b3 t0 t1 :=
 ⟨F.k0.keep λo e=>s _ _ e,F.k1.keep λo e=>s _ _ e,F.k2.keep λo e=>s _ _ e,F.k3.keep λo e=>s _ _ e,F.ne⟩
theorem zB(h:LC K a vs H Q E):R0 K a (λ_=>E) (BB Q) (A8 ["brooms","hold","changes","size","turns","waiting","kind","k"] vs) H:=by
 obtain⟨bl,z,tu,L,b0,b1,b2,b3,A,w,rows,n,cs,outs,F,t0,t1,rfl,TT,B,own,hr,hr',hcs,hz,htu,ht0,ht1,hbl,F4,hw,q⟩:=h
 have need:LH cs:=λk c e=>(B.bk.need k c e).1
 obtain⟨dx,hb⟩:=B.bk.ob
 push_cast[R0,↓uL]
 refine⟨_,_,hb,B0 (by decide +kernel),A,w,rows,n,cs,outs,rfl,TT.1,B,λwl H1 hwl s1 ewl=> ?_⟩
 push_cast[↓uP]
 refine⟨by decide,by decide,?_⟩
 refine FR (λi σ H'=>(Four a H' b0 b1 b2 b3 0 0/\Kept H1 H')/\∃ y6 y7,σ=[some (.ref bl),some (.ref A.b),some (.ref L),some (.ref z),some (.ref tu),some (.ref wl),y6,y7]) ⟨⟨F4.same s1,(Same.refl _).kept⟩,_,_,rfl⟩ (λi σ H2 hi ⟨⟨F2,k2⟩,y6,y7,eσ⟩=> ?_) (λσ H2 ⟨⟨F2,k2⟩,y6,y7,eσ⟩=> ?_)
 ·subst eσ
  push_cast[↓uO,Int.zero_add]
  refine⟨by decide,by decide,?_⟩
  refine FR (λj σ H'=>(Four a H' b0 b1 b2 b3 0 0/\Kept H1 H')/\∃ y7,σ=[some (.ref bl),some (.ref A.b),some (.ref L),some (.ref z),some (.ref tu),some (.ref wl),some (.int i),y7]) ⟨⟨F2,k2⟩,_,rfl⟩ (λj σ H3 hj ⟨⟨F3,k3⟩,y7,eσ⟩=> ?_) (λσ H3 ⟨⟨F3,k3⟩,y7,eσ⟩=> ?_)
  ·subst eσ
   have k13:=s1.kept.trans k3
   have ebl:=k13.l hbl
   push_cast[↓uN]
   obtain⟨br,ei,hb3,after⟩:∃ br,([V.ref b0,V.ref b1,V.ref b2,V.ref b3]:List V)[i]? =some (.ref br)/\BroomAt a H3 br i 0/\∀ H',BroomAt a H' br i 1->SameBut (· =br) H3 H'->Four a H' b0 b1 b2 b3 0 0:=by
    obtain⟨n1,n2,n3,n4,n5,n6⟩:=F3.ne
    rcases(by omega:i=0\/i=1)with rfl | rfl
    ·exact⟨b0,rfl,F3.k0,λH' b s=>⟨b,F3.k1.keep λo e=>s _ _ e n1.symm,F3.k2.keep λo e=>s _ _ e n2.symm,F3.k3.keep λo e=>s _ _ e n3.symm,F3.ne⟩⟩
    ·exact⟨b1,rfl,F3.k1,λH' b s=>⟨F3.k0.keep λo e=>s _ _ e n1,b,F3.k2.keep λo e=>s _ _ e n4.symm,F3.k3.keep λo e=>s _ _ e n5.symm,F3.ne⟩⟩
   refine A7 (SqL.of ebl) (n:=i) rfl ei ?_
   refine CI (k13.t hz) (n:=0) rfl rfl ⟨i,L,wl,rows.length,0,cs,outs,F,rfl,own.kept k13,k3.l ewl,by omega,need,hr,by omega,hw,by omega,λH4 s4=> ?_⟩
   have k14:=k13.trans s4.kept
   refine⟨br,i,0,A,w,rows,n,cs,outs,rfl,TT,B.kept k14,hb3.keep λo e=>s4 _ _ e,by omega,hr,by omega,λ_=>hw,λH5 b5 s5 _=> ?_⟩
   refine⟨true,rfl,CC (by decide) ?_⟩
   have s45:SameBut (· =br) H3 H5:=λy o e ny=>s5 _ _ (s4 _ _ e) ny
   exact⟨after H5 b5 s45,k3.trans (hb3.kp s45)⟩
  ·subst eσ
   exact⟨F3,k3,_,_,rfl⟩
 ·subst eσ
  have k12:=s1.kept.trans k2
  push_cast[↓uS]
  refine A7 (SqL.of (k12.l htu)) (n:=0) rfl rfl ⟨t0,rfl,by omega,by omega,?_⟩
  rw[Int.toNat_natCast]
  refine FR (λi σ H'=>(Four a H' b0 b1 b2 b3 i 0/\Kept H1 H')/\∃ y6 y7,σ=[some (.ref bl),some (.ref A.b),some (.ref L),some (.ref z),some (.ref tu),some (.ref wl),y6,y7]) ⟨⟨F2,k2⟩,_,_,rfl⟩ (λi σ H3 hi ⟨⟨F3,k3⟩,y6,y7,eσ⟩=> ?_) (λσ H3 ⟨⟨F3,k3⟩,y6,y7,eσ⟩=> ?_)
  ·subst eσ
   have k13:=s1.kept.trans k3
   push_cast[↓uR,Int.zero_add]
   refine A7 (SqL.of (k13.l hbl)) (n:=2) rfl rfl (CI (k13.t hz) (n:=0) rfl rfl ⟨_,_,rfl,rfl,show(0:Int)<rows.length by omega,?_⟩)
   refine⟨b2,2,i,A,w,rows,n,cs,outs,rfl,TT,B.kept k13,F3.k2,by omega,hr,by omega,λz=>by omega,λH5 b5 s5 _=>⟨true,rfl,CC (by decide) ?_⟩⟩
   obtain⟨n1,n2,n3,n4,n5,n6⟩:=F3.ne
   exact⟨⟨F3.k0.keep λo e=>s5 _ _ e n2,F3.k1.keep λo e=>s5 _ _ e n4,b5,F3.k3.keep λo e=>s5 _ _ e n6.symm,F3.ne⟩,k3.trans (F3.k2.kp s5)⟩
  ·subst eσ
   have k13:=s1.kept.trans k3
   push_cast[↓uV]
   refine A7 (SqL.of (k13.l htu)) (n:=1) rfl rfl ⟨t1,rfl,by omega,by omega,?_⟩
   rw[Int.toNat_natCast]
   refine FR (λi σ H'=>(Four a H' b0 b1 b2 b3 t0 i/\Kept H1 H')/\∃ y6 y7,σ=[some (.ref bl),some (.ref A.b),some (.ref L),some (.ref z),some (.ref tu),some (.ref wl),y6,y7]) ⟨⟨F3,k3⟩,_,_,rfl⟩ (λi σ H3 hi ⟨⟨F3,k3⟩,y6,y7,eσ⟩=> ?_) (λσ H3 ⟨⟨F3,k3⟩,y6,y7,eσ⟩=> ?_)
   ·subst eσ
    have k13:=s1.kept.trans k3
    push_cast[↓uU,Int.zero_add]
    refine A7 (SqL.of (k13.l hbl)) (n:=3) rfl rfl (CI (k13.t hz) (n:=0) rfl rfl ⟨_,_,rfl,rfl,show(0:Int)<rows.length by omega,?_⟩)
    refine⟨b3,2,i,A,w,rows,n,cs,outs,rfl,TT,B.kept k13,F3.k3,by omega,hr,by omega,λz=>by omega,λH5 b5 s5 _=>⟨true,rfl,CC (by decide) ?_⟩⟩
    obtain⟨n1,n2,n3,n4,n5,n6⟩:=F3.ne
    exact⟨⟨F3.k0.keep λo e=>s5 _ _ e n3,F3.k1.keep λo e=>s5 _ _ e n5,F3.k2.keep λo e=>s5 _ _ e n6,b5,F3.ne⟩,k3.trans (F3.k3.kp s5)⟩
   ·subst eσ
    have k13:=s1.kept.trans k3
    have B3:=B.kept k13
    obtain⟨dx3,hb3⟩:=B3.bk.ob
    push_cast[↓uW]
    refine⟨_,_,hb3,B0 (by decide +kernel),A,w,rows,n,cs,outs,rfl,TT.1,B3,λwl2 H4 hwl2 s4 ewl2=> ?_⟩
    have ew1:=s4 _ _ (k3.l ewl)
    rw[cI]at ew1 ewl2
    exact yZ ewl2 ew1 (q _ (F3.same s4) (k13.trans s4.kept))
theorem zC(h:LC K a vs H Q E):vs.length=5:=by
 obtain⟨_,_,_,_,_,_,_,_,_,_,_,_,_,_,_,_,_,rfl,_⟩:=h
 rfl
theorem zD(h:LE K a vs H Q E):R1 K a (λ_=>E) (BB Q) (A8 ["cell","sizes","holds","hold","broom","k","which"] vs) H:=by
 obtain⟨c,rfl,TT,q⟩:=h
 obtain⟨T,TP,X⟩:=TT
 push_cast[R1,↓uX,↓EV]
 have p1:=D8 (c:=c) (p:=10103) (m:=5) (by decide)
 have p2:=EM (c:=c) (p:=10103) (m:=5) (by decide)
 have p3:=D8 (c:=c) (p:=10111) (m:=7) (by decide)
 have p4:=EM (c:=c) (p:=10111) (m:=7) (by decide)
 obtain⟨m0,e0⟩:∃ m0:Nat,1+CJ c 10103 5=m0:=⟨(1+CJ c 10103 5).toNat,by omega⟩
 obtain⟨m1,e1⟩:∃ m1:Nat,2+CJ c 10111 7=m1:=⟨(2+CJ c 10111 7).toNat,by omega⟩
 rw[e0,e1]
 have b0:1<=m0/\m0<=10:=by omega
 have b1:1<=m1/\m1<=10:=by omega
 refine⟨by decide,λsz hsz=> ?_⟩
 have s0:=AW (o:=.lst [.int m0,.int m1]) hsz
 have ez:upd H sz (.lst [.int m0,.int m1]) sz=some (.lst [.int m0,.int m1]):=AK
 revert s0 ez
 generalize upd H sz (.lst [.int m0,.int m1])=H0
 intro s0 ez
 push_cast[↓uY]
 refine A7 (SqL.of ez) (n:=0) rfl rfl (NJ (m0:=m0) (w:=1) TP (by omega) (Nat.le_refl _) (by omega) λpk cl H1 hpk hcl P1 s1=> ?_)
 refine NK (w:=1) T TP P1 λA H2 eg ec fr B2 s2=> ?_
 have ez2:=s2 _ _ (s1 _ _ ez)
 refine A7 (SqL.of ez2) (n:=1) rfl rfl (NJ (m0:=m1) (w:=1) TP (by omega) (Nat.le_refl _) (by omega) λpk' cl' H3 hpk' hcl' P3 s3=> ?_)
 refine NK (w:=1) T TP P3 λA' H4 eg' ec' fr' B4 s4=>⟨by decide,λhd hhd=> ?_⟩
 have s5:=AW (o:=.lst [.ref A.b,.ref A'.b]) hhd
 have ehd:upd H4 hd (.lst [.ref A.b,.ref A'.b]) hd=some (.lst [.ref A.b,.ref A'.b]):=AK
 have s24:=s3.trans s4
 have fA:∀ x,A.F x->H0 x=none:=λx f=>by
  cases e:H0 x with
  | none=>rfl
  | some o =>
   exfalso
   rcases fr x o (s1 _ _ e)with z | z
   ·rw[z,hcl]at e;cases e
   ·exact z f
 have fA':∀ x,A'.F x->H2 x=none:=λx f=>by
  cases e:H2 x with
  | none=>rfl
  | some o =>
   exfalso
   rcases fr' x o (s3 _ _ e)with z | z
   ·rw[z,hcl']at e;cases e
   ·exact z f
 have s02:=s1.trans s2
 have n01:∀ x,A.F x->¬ A'.F x:=λx f f'=>B2.off (fA' x f') f
 have nhd:¬ A.F hd/\¬ A'.F hd:=⟨λf=>((B2.same s24).off hhd) f,λf=>B4.off hhd f⟩
 have B5:=(B2.same s24).same s5
 have B5':=B4.same s5
 have s05:Same H0 (upd H4 hd (.lst [.ref A.b,.ref A'.b])):=(s02.trans s24).trans s5
 have ez5:=s05 _ _ ez
 revert s5 ehd B5 B5' s05 ez5
 generalize upd H4 hd (.lst [.ref A.b,.ref A'.b])=H5
 intro s5 ehd B5 B5' s05 ez5
 have nF:∀ x o,H0 x=some o->¬ (A.F x\/A'.F x):=λx o e f=>by
  rcases f with f | f
  ·rw[fA x f]at e;cases e
  ·have:=s02.free (fA' x f)
   rw[this]at e;cases e
 push_cast[↓u2]
 refine .inl ⟨⟨_,SqL.of ehd⟩,E9 (xs:=[.ref A.b,.ref A'.b]) (λi σ H'=>(∃ cs cs':List Ch,cs.length<=i/\cs'.length<=i/\A1 a H' A 1 _ 0 cs (λ_=>false)/\A1 a H' A' 1 _ 0 cs' (λ_=>false)/\SameBut (λx=>A.F x\/A'.F x) H5 H')/\∃ y3,σ=[some (.int c),some (.ref sz),some (.ref hd),y3,none,none,none]) ⟨⟨[],[],Nat.le_refl _,Nat.le_refl _,B5,B5',SameBut.refl _⟩,_,rfl⟩ (λi σ H' _ ⟨⟨_,_,_,_,_,_,s⟩,_⟩=>SqL.of (s _ _ ehd λf=>f.elim nhd.1 nhd.2)) (λi v σ H' hx ⟨⟨cs,cs',l1,l2,b1',b2',s⟩,y3,eσ⟩=> ?_) (λσ H' ⟨⟨cs,cs',l1,l2,b1',b2',s⟩,y3,eσ⟩=> ?_)⟩
 ·subst eσ
  have hi:=(List.getElem?_eq_some_iff.mp hx).1
  push_cast[↓uZ]
  have chg:∀ {Ax:BA} {m:Nat} {csx:List Ch} {QC:VK},A1 a H' Ax 1 (List.replicate m (List.replicate 1 .non)) 0 csx (λ_=>false)->1<=m->csx.length<=i->(∀ (ch:Ch) (H2:Hp),A1 a H2 Ax 1 (List.replicate m (List.replicate 1 .non)) 0 (csx++[ch]) (λ_=>false)->SameBut Ax.F H' H2->QC (.int csx.length) H2) →
    ∃ x fs,H' Ax.b=some (.ins (a "Hold") x fs)/\fs.lookup (Str.ofString "change")=none/\2<=sizeLine/\∀ p,H' p=none->0<=sizeLine/\∀ p1,upd H' p (.tup [.int 0,.int 0]) p1=none->EW K a [.ref Ax.b,.ref p,.int 1,.ref p1] (upd (upd H' p (.tup [.int 0,.int 0])) p1 (.lst [])) QC E:=λ{Ax m csx QC} Bx hm hl qc=>by
   obtain⟨dx,hb⟩:=Bx.bk.ob
   refine⟨_,_,hb,B0 (by decide +kernel),by decide,λpl hpl=>⟨by decide,λe0 he0=> ?_⟩⟩
   have s2:=(AW (o:=.tup [.int 0,.int 0]) hpl).trans (AW (o:=.lst []) he0)
   have epl:upd (upd H' pl (.tup [.int 0,.int 0])) e0 (.lst []) pl=some (.tup [.int 0,.int 0]):=AW he0 _ _ AK
   refine⟨Ax,1,_,0,csx,_,pl,e0,.int 1,[],0,0,rfl,T,TP,Bx.same s2,epl,SqL.of AK,by simp,by simp at hi;omega,λ_ _ nd H3 r m B3 s3=>qc _ H3 B3 λy o e ny=>s3 _ _ (s2 _ _ e) ny,λz=>absurd ⟨by omega,by simp;omega,by omega,by omega⟩ z,λ_ ⟨x,hx,_⟩=>by cases hx⟩
  simp only[List.length_cons,List.length_nil]at hi
  rcases(by omega:i=0\/i=1)with rfl | rfl
  ·cases hx
   refine⟨_,rfl,chg b1' b0.1 l1 λch H2 B2 sb=>⟨_,by rw[List.length_append,List.length_singleton];omega,cs',by omega,B2,b2'.sb sb (λx f=>b1'.loose f) n01,s.trans (sb.wide λx f=>.inl f)⟩⟩
  ·cases hx
   refine⟨_,rfl,chg b2' b1.1 l2 λch H2 B2 sb=>⟨cs,by omega,_,by rw[List.length_append,List.length_singleton];omega,b1'.sb sb (λx f=>b2'.loose f) (λx f f'=>n01 x f' f),B2,s.trans (sb.wide λx f=>.inr f)⟩⟩
 ·subst eσ
  push_cast[↓u3]
  refine λbr dx hbr hdx nbr=>⟨br,dx,rfl,X,AK,rfl,?_⟩
  have s6:Same H' (upd (upd (upd H' dx (.own br)) br (.ins (a "Round") dx [])) br (.ins (a "Round") dx [("turns",.int 0)])):=λy o e=>by
   rw[AH (AY e hbr),AH (AY e hbr),AH (AY e hdx)];exact e
  have br6:BroomAt a (upd (upd (upd H' dx (.own br)) br (.ins (a "Round") dx [])) br (.ins (a "Round") dx [("turns",.int 0)])) br 2 0:=⟨dx,AK⟩
  have s06:Same H0 H':=λy o e=>s _ _ (s05 _ _ e) (nF y o e)
  have fbr:H br=none:=s0.free (s06.free hbr)
  revert s6 br6
  generalize upd (upd (upd H' dx (.own br)) br (.ins (a "Round") dx [])) br (.ins (a "Round") dx [("turns",.int 0)])=H6
  intro s6 br6
  have hd6:=s6 _ _ (s _ _ ehd λf=>f.elim nhd.1 nhd.2)
  have sz6:=s6 _ _ (s06 _ _ ez)
  have Bk6:=b1'.same s6
  have Bk6':=b2'.same s6
  have sH6:=(s0.trans s06).trans s6
  push_cast[↓u7]
  refine⟨by decide,by decide,?_⟩
  refine FR (λk σ H'=>(BroomAt a H' br 2 k/\Kept H6 H'/\Same H H')/\∃ y3 y5 y6,σ=[some (.int c),some (.ref sz),some (.ref hd),y3,some (.ref br),y5,y6]) ⟨⟨br6,(Same.refl _).kept,sH6⟩,_,_,_,rfl⟩ (λk σ H7 hk ⟨⟨br7,k7,s7⟩,y3,y5,y6,eσ⟩=> ?_) (λσ H7 ⟨⟨br7,k7,s7⟩,y3,y5,y6,eσ⟩=> ?_)
  ·subst eσ
   push_cast[↓u4,↓EV,Int.zero_add]
   have q1:=D8 (c:=c+(k:Int)) (p:=10133) (m:=2) (by decide)
   have q2:=EM (c:=c+(k:Int)) (p:=10133) (m:=2) (by decide)
   generalize CJ (c+(k:Int)) 10133 2=pk at q1 q2
   push_cast[↓u6]
   have go:∀ {Ax:BA} {m:Nat} {csx:List Ch},A1 a H7 Ax 1 (List.replicate m (List.replicate 1 .non)) 0 csx (λ_=>false)->1<=m->m<=10->∀ {QC:VK},(∀ H8,BroomAt a H8 br 2 (k+1)->SameBut (· =br) H7 H8->QC (.bl true) H8)->EN K a [.ref br,.ref Ax.b,.int ((k:Int) % m)] H7 QC E:=λ{Ax m csx} Bx h1 h2 {QC} qc=>by
    refine⟨br,2,k,Ax,1,_,0,csx,_,?_,⟨T,TP,X⟩,Bx,br7,by omega,by simp;omega,by simp;omega,λz=>by omega,λH8 b8 s8 _=>qc H8 b8 s8⟩
    simp[DF]
   have fin:∀ H8,BroomAt a H8 br 2 (k+1)->SameBut (· =br) H7 H8->BroomAt a H8 br 2 (k+1)/\Kept H6 H8/\Same H H8:=λH8 b8 s8=>⟨b8,k7.trans (br7.kp s8),λy o e=>s8 _ _ (s7 _ _ e) (AY e fbr)⟩
   rcases(by omega:pk=0\/pk=1)with rfl | rfl
   ·refine A7 (SqL.of (k7.l hd6)) (n:=0) rfl rfl (A7 (SqL.of (k7.l sz6)) (n:=0) rfl rfl ⟨_,_,rfl,rfl,show(0:Int)<m0 by omega,?_⟩)
    refine go (Bk6.kept k7) b0.1 b0.2 λH8 b8 s8=>⟨true,rfl,CC (by decide) ?_⟩
    exact fin H8 b8 s8
   ·refine A7 (SqL.of (k7.l hd6)) (n:=1) rfl rfl (A7 (SqL.of (k7.l sz6)) (n:=1) rfl rfl ⟨_,_,rfl,rfl,show(0:Int)<m1 by omega,?_⟩)
    refine go (Bk6'.kept k7) b1.1 b1.2 λH8 b8 s8=>⟨true,rfl,CC (by decide) ?_⟩
    exact fin H8 b8 s8
  ·subst eσ
   push_cast[↓u8]
   exact q _ s7
theorem zE(h:LE K a vs H Q E):vs.length=1:=by
 obtain⟨_,rfl,_⟩:=h
 rfl
theorem zF{κ :Type}[DecidableEq κ]{kvs:List (κ × V)}{k: κ}{v:V}{p: κ × V}(h:p∈CA kvs k v):p.1=k\/∃ p'∈kvs,p'.1=p.1:=by
 unfold CA at h
 split at h
 ·obtain⟨p',hp,e⟩:=List.mem_map.mp h
  refine .inr ⟨p',hp,?_⟩
  subst e
  split<;>rfl
 ·rcases List.mem_append.mp h with h | h
  ·exact .inr ⟨p,h,rfl⟩
  ·rw[List.mem_singleton.mp h];exact .inl rfl
theorem cP{K:W.Frag}{H:Hp}:∀ {hs:List Addr} {held:List (Nat × Int)},Paired (λx (p:Nat × Int)=>H x=some (.tup [.int p.1,.int p.2])) hs held->Paired (Dat K H 1) (hs.map V.ref) (held.map λp=>PyData.tuple [.int p.1,.int p.2])
 | _,_,.nil=>.nil
 | _,_,.cons h t=>.cons (.tup (SqT.of h) (.cons (.int _) (.cons (.int _) .nil))) (cP t)
theorem ToldAt.dat{K:W.Frag}{H:Hp}{t ol hl:Addr}{out:List Nat}{held:List (Nat × Int)}(h:ToldAt H t ol hl out held):Dat K H 3 (.ref t) (.tuple [.list (out.map λ(k:Nat)=>PyData.int k),.list (held.map λp=>PyData.tuple [.int p.1,.int p.2])]):=by
 obtain⟨h1,h2,hs,h3,h4⟩:=h
 have e:∀ l:List Nat,Paired (Dat K H 1) (l.map λ(k:Nat)=>V.int k) (l.map λ(k:Nat)=>PyData.int k):=λl=>by
  have:=FT (K:=K) (H:=H) (n:=1) (l.map λ(k:Nat)=>(k:Int))
  rw[List.map_map,List.map_map]at this
  exact this
 exact .tup (SqT.of h1) (.cons (.lst (SqL.of h2) (e out)) (.cons (.lst (SqL.of h3) (cP h4)) .nil))
theorem BookAt.apart{H':Hp}{A A':BA}{w w':Nat}{rows rows':List (List V)}{n n':Nat}{cs cs':List Ch}{outs outs':Int->Bool}(B:A1 a H A w rows n cs outs)(B':A1 a H A' w' rows' n' cs' outs')(d:∀ x,A.W x->¬ A'.W x)(s:SameBut A'.W H H'):A1 a H' A w rows n cs outs:=by
 have tp:∀ {x:Addr} {xs:List V},H x=some (.tup xs)->H' x=some (.tup xs):=λe=>s _ _ e λf=>GS B' f _ e
 obtain⟨dp',p'⟩:=B'.pk.ob
 have ins:∀ {x C dx:Addr} {fs:List (Str × V)},H x=some (.ins C dx fs)->(∀ cl w n,fs≠pf cl w n)->H' x=some (.ins C dx fs):=λe ne=>s _ _ e λf=>by
  rcases f with f | f
  ·exact(B'.loose f).2 _ _ _ e
  ·rw[f,p']at e
   cases e
   exact ne _ _ _ rfl
 obtain⟨⟨⟨dx,e1⟩,⟨chs,e2,e3⟩,e4,e5,e6,⟨kvs,e7,e8⟩,⟨kvo,e9,e10⟩,r1,r2,r3,r4,r5⟩,⟨⟨dp,p1⟩,⟨ts,p2,p3⟩,p4,p5,p6⟩,nb⟩:=B
 refine⟨⟨⟨dx,ins e1 λ_ _ _ z=>by simp[bf,pf]at z⟩,⟨chs,s _ _ e2 (d _ (.inl (.inl rfl))),Paired.mapP e3 λx c h=> ?_⟩,s _ _ e4 (d _ (.inl (.inr (.inl rfl)))),λi l h=>s _ _ (e5 i l h) (d _ (.inl (.inr (.inr (.inl (List.mem_of_getElem? h)))))),e6,⟨kvs,s _ _ e7 (d _ (.inl (.inr (.inr (.inr (.inl rfl)))))),e8⟩,⟨kvo,s _ _ e9 (d _ (.inl (.inr (.inr (.inr (.inr (.inl rfl))))))),e10⟩,r1,r2,r3,r4,r5⟩,
  ⟨⟨dp,s _ _ p1 (d _ (.inr rfl))⟩,⟨ts,s _ _ p2 (d _ (.inl (.inr (.inr (.inr (.inr (.inr rfl))))))),Paired.mapP p3 λt r e=>tp e⟩,p4,p5,p6⟩,nb⟩
 obtain⟨dx,pl,nt,c1,c2,c3⟩:=h
 exact⟨dx,pl,nt,ins c1 λ_ _ _ z=>by
  have:("place":Str)="contents":=congrArg Prod.fst (List.cons.inj z).1
  revert this
  decide +kernel,tp c2,tp c3⟩
variable{S:WS}{w:Nat}{rows:List (List V)}{n:Nat}{cs:List Ch}{outs:Int->Bool}
theorem W25.there(I:W25 a H S w rows n cs outs){x:Addr}(h:S.B x):H x≠none/\∀ xs,H x≠some (.tup xs):=by
 rcases h with h | h | h | h
 ·exact⟨λz=>EB I.b0 z h,GS I.b0 h⟩
 ·exact⟨λz=>EB I.b1 z h,GS I.b1 h⟩
 ·obtain⟨tl,e,_⟩:=I.ow
  rw[h,e]
  exact⟨λz=>(by cases z),λ_ z=>(by cases z)⟩
 ·obtain⟨kvs,e,_⟩:=I.la
  rw[h,e]
  exact⟨λz=>(by cases z),λ_ z=>(by cases z)⟩
theorem cQ{b:Nat}{row:List V}{O:Int->Bool}(fl:F0 rows)(vl:IP cs)(er:rows[b]? =some row):F0 (rows.set b (FY cs O b row)):=λr hr v hv=>by
 rcases List.mem_or_eq_of_mem_set hr with hr | hr
 ·exact fl r hr v hv
 ·rw[hr,qK]at hv
  rcases WZ hv with hv | ⟨c,hc,e⟩
  ·exact fl row (List.mem_of_getElem? er) v hv
  ·obtain⟨i,ei⟩:=vl c hc
   exact .inr ⟨i,by rw[e,ei]⟩
theorem LastD.keep{H':Hp}{la:Addr}(h:LastD H la cs)(k:∀ o,H la=some o->H' la=some o):LastD H' la cs:=by
 obtain⟨kvs,e,r⟩:=h
 exact⟨kvs,k _ e,r⟩
theorem zG{hl z:Addr}{c:Int}{b:Nat}{y6 y7 y8 y9:Option V}(TT:D1 K a)(I:W25 a H S w rows n cs outs)(hb:b<rows.length)(hhl:H hl=some (.lst [.ref S.A.b,.ref S.A'.b]))(nhl:¬ S.B hl)
  (q:∀ (rows':List (List V)) (n':Nat) (outs':Int->Bool) (H':Hp),W25 a H' S w rows' n' cs outs'->rows'.length=rows.length->SameBut S.B H H'->Q (.bl true) H') :
  RV K a (λ_=>E) (λ_=>E) (BB Q) [some (.ref hl),some (.int c),some (.ref z),some (.ref S.L),some (.ref S.la),some (.int b),y6,y7,y8,y9] H:=by
 obtain⟨dx,hob⟩:=I.b0.bk.ob
 push_cast[↓t7]
 refine A7 (SqL.of hhl) (n:=0) rfl rfl ⟨S.A.b,rfl,_,_,hob,B0 (by decide +kernel),S.A,w,rows,n,cs,outs,b,rfl,TT.1,TT.2.1,I.b0,λb' row t ol hll H1 eb er hol hhll nol td B1 s1=> ?_,λz=>by omega⟩
 obtain rfl:b=b':=by omega
 have B1':=I.b1.apart I.b0 (λx f f'=>I.ap.h x f' f) s1
 have hhl1:=s1 _ _ hhl λf=>nhl (.inl f)
 obtain⟨dx',hob'⟩:=B1'.bk.ob
 refine A7 (SqL.of hhl1) (n:=1) rfl rfl ⟨S.A'.b,rfl,_,_,hob',B0 (by decide +kernel),S.A',w,rows,n,cs,outs,b,rfl,TT.1,TT.2.1,B1',λb' row' t' ol' hll' H2 eb' er' hol' hhll' nol' td' B2' s2=> ?_,λz=>by omega⟩
 obtain rfl:b=b':=by omega
 rw[er]at er'
 cases er'
 have B2:=B1.apart B1' (λx f f'=>I.ap.h x f f') s2
 have td2:=td.sb s2 (λx f=>GS B1' f) (λf=>EB I.b1 hol f) (λf=>EB I.b1 hhll f)
 refine WB (n:=3) (by decide) td2.dat td'.dat ?_
 have s12:SameBut S.B H H2:=(s1.wide λx f=>.inl f).trans (s2.wide λx f=>.inr (.inl f))
 have sA:SameBut (λx=>S.A.W x\/S.A'.W x) H H2:=(s1.wide λx f=>.inl f).trans (s2.wide λx f=>.inr f)
 refine q _ (n+1) _ H2 ⟨B2,B2',I.ow.sb sA (λx f=>f.elim .inl λf=>.inr (.inl f)) (λf=>f.elim I.ap.l.1 I.ap.l.2.1) (λx f=>(I.there (f.elim .inl λf=>.inr (.inl f))).2),I.la.keep λo e=>sA _ _ e λf=>f.elim I.ap.l.2.2.1 I.ap.l.2.2.2.1,cQ I.fl I.vl er,I.vl,I.ap,by rw[List.length_set];exact I.sz⟩ (List.length_set ..) s12
theorem cR{F:Addr->Prop}{H:Hp}:∀ {tl:List Addr} {cs:List Ch},Paired (W2 F H) tl cs->∃ ds,Paired (Dat K H 2) (tl.map V.ref) ds
 | _,_,.nil=>⟨[],.nil⟩
 | _,_,.cons ⟨pl,nl,ns,h1,h2,h3,_⟩ r=>by
  obtain⟨ds,hd⟩:=cR r
  have d1:Dat K H 1 (.ref pl) (.tuple [.int _,.int _]):=Dat.tup (n:=0) (SqT.of h2) (.cons (Dat.int _) (.cons (Dat.int _) .nil))
  have d2:Dat K H 1 (.ref nl) (.list (ns.map PyData.int)):=Dat.lst (n:=0) (SqL.of h3) (FT ns)
  exact⟨_,.cons (Dat.tup (n:=1) (SqT.of h1) (.cons d1 (.cons d2 .nil))) hd⟩
theorem W25.same{H':Hp}{S:WS}{w:Nat}{rows:List (List V)}{n:Nat}{cs:List Ch}{outs:Int->Bool}(I:W25 a H S w rows n cs outs)(s:Same H H'):W25 a H' S w rows n cs outs :=
 ⟨I.b0.same s,I.b1.same s,I.ow.same s,I.la.keep λo e=>s _ _ e,I.fl,I.vl,I.ap,I.sz⟩
theorem zH(h:K9 K a vs H Q E):RZ K a (λ_=>E) (BB Q) (A8 ["holds","cell","size","changes","last","block","place","needs","k","value"] vs) H:=by
 obtain⟨hl,z,S,w,rows,n,cs,outs,c,rfl,TT,I,hc,hz,hhl,nhl,q⟩:=h
 obtain⟨hr,hr',hw,hw'⟩:=I.sz
 have r0:(0:Int)<rows.length:=by omega
 have w0:(0:Int)<w:=by omega
 push_cast[RZ,↓t8,↓EV]
 by_cases h0:CJ c 10007 7=0
 ·refine GR h0 ?_
  push_cast[↓t6]
  refine CI hz (n:=0) rfl rfl ?_
  push_cast[↓EV]
  refine⟨r0,?_⟩
  have i0:=D8 (c:=c) (p:=10009) r0
  have i1:=EM (c:=c) (p:=10009) r0
  obtain⟨b,eb⟩:∃ b:Nat,CJ c 10009 rows.length=b:=⟨(CJ c 10009 rows.length).toNat,by omega⟩
  rw[eb]
  exact zG TT I (by omega) hhl nhl λrows' n' outs' H' I' er s=>q rows' n' cs outs' H' I' er (by omega) s
 refine CC h0 ?_
 push_cast[↓t9]
 refine CI hz (n:=0) rfl rfl ?_
 push_cast[↓EV]
 refine⟨r0,CI hz (n:=1) rfl rfl ?_⟩
 push_cast[↓EV]
 refine⟨w0,by decide,λp hp=> ?_⟩
 have i0:=D8 (c:=c) (p:=10037) r0
 have i1:=EM (c:=c) (p:=10037) r0
 have j0:=D8 (c:=c) (p:=10039) w0
 have j1:=EM (c:=c) (p:=10039) w0
 generalize CJ c 10037 ↑rows.length=pi at i0 i1 ⊢
 generalize CJ c 10039 ↑w=pj at j0 j1 ⊢
 push_cast[↓uA,↓uC,↓EV]
 refine⟨by decide,λnl hnl=>⟨by decide,λe0 he0=> ?_⟩⟩
 have npn:p≠nl:=AY AK hnl
 have nne:nl≠e0:=AY AK he0
 have s1:Same H (upd (upd (upd H p (.tup [.int pi,.int pj])) nl (.lst [])) e0 (.lst [])):=((AW hp).trans (AW hnl)).trans (AW he0)
 have ep:upd (upd (upd H p (.tup [.int pi,.int pj])) nl (.lst [])) e0 (.lst []) p=some (.tup [.int pi,.int pj]):=by
  rw[AH (AY (by rw[AH npn];exact AK) he0),AH npn,AK]
 have en:upd (upd (upd H p (.tup [.int pi,.int pj])) nl (.lst [])) e0 (.lst []) nl=some (.lst []):=by rw[AH nne,AK]
 have ee:upd (upd (upd H p (.tup [.int pi,.int pj])) nl (.lst [])) e0 (.lst []) e0=some (.lst []):=AK
 have hnlH:H nl=none:=(AW hp).free hnl
 revert s1 ep en ee
 generalize upd (upd (upd H p (.tup [.int pi,.int pj])) nl (.lst [])) e0 (.lst [])=H1
 intro s1 ep en ee
 obtain⟨tl,hL,own⟩:=I.ow
 obtain⟨kvs,hla,hv,hkl,hkk⟩:=I.la
 have htl:tl.length=cs.length:=own.length
 obtain⟨ds,hds⟩:=cR (K:=K) own
 refine WD (n:=2) (by decide) (SqL.of (s1 _ _ hL)) (Paired.mapP hds λv d h=>⟨Rep.same s1 h.1,h.2⟩) (SqL.of ee) ?_
 have q0:=D8 (c:=c) (p:=10061) (m:=4) (by decide)
 have q1:=EM (c:=c) (p:=10061) (m:=4) (by decide)
 generalize CJ c 10061 4=pk at q0 q1
 push_cast[]
 obtain⟨cnt,ecnt,hcnt⟩:∃ cnt:Nat,pk * (if ¬ tl.map V.ref=[]then 1 else 0)=cnt/\cnt<=3/\(cnt≠0->0<cs.length):=by
  by_cases h:tl.map V.ref=[]
  ·refine⟨0,by simp[h],by omega,λz=>absurd rfl z⟩
  ·have:0<cs.length:=by
    rw[<-htl]
    rcases tl with _ | _
    ·exact absurd rfl h
    ·simp
   exact⟨pk.toNat,by simp[h];omega,by omega,λ_=>this⟩
 refine⟨.inl ⟨by omega,by omega⟩,by rw[ecnt];omega,by rw[ecnt];omega,?_⟩
 rw[ecnt,Int.toNat_natCast]
 have sk:∀ o,Same H (upd H1 nl o):=λo y u e=>by rw[AH (AY e hnlH)];exact s1 _ _ e
 refine FR (λi σ H'=>(∃ ns:List Int,H'=upd H1 nl (.lst (ns.map V.int))/\ns.length=i/\∀ x∈ns,known cs x)/\∃ z1,σ=[some (.ref hl),some (.int c),some (.ref z),some (.ref S.L),some (.ref S.la),none,some (.ref p),some (.ref nl),z1,none]) ⟨⟨[],?_,rfl,by simp⟩,_,rfl⟩ (λi σ H' hi ⟨⟨ns,e,hl',hb⟩,z1,ez⟩=> ?_) (λσ H' ⟨⟨ns,e,hl',hb⟩,z1,ez⟩=> ?_)
 ·funext y
  by_cases e:y=nl
  ·subst e;rw[AK];exact en
  ·rw[AH e]
 ·subst e;subst ez
  push_cast[↓uB,↓EV]
  have p3:=D8 (c:=c+(0+ ↑i)) (p:=10067) (m:=9) (by decide)
  have hpos:=hcnt.2 (by omega)
  refine⟨.inl ⟨rfl,_,SqL.of AK⟩,cs.length,.inl ⟨_,SqL.of (sk _ _ _ hL),by rw[List.length_map,htl]⟩,nl,_,_,rfl,rfl,AK,Nat.lt_of_lt_of_le (show(ns.map V.int).length<1000 by rw[List.length_map];omega) (by decide),ns++[_],by rw[F6,List.map_append];rfl,by simp[hl'],λx hx=> ?_⟩
  rcases List.mem_append.mp hx with h | h
  ·exact hb x h
  ·rw[List.mem_singleton.mp h]
   constructor<;>split<;>omega
 ·subst e;subst ez
  have s2:=sk (.lst (ns.map V.int))
  have en2:upd H1 nl (.lst (ns.map V.int)) nl=some (.lst (ns.map V.int)):=AK
  have ep2:upd H1 nl (.lst (ns.map V.int)) p=some (.tup [.int pi,.int pj]):=by rw[AH npn];exact ep
  revert s2 en2 ep2
  generalize upd H1 nl (.lst (ns.map V.int))=H2
  intro s2 en2 ep2
  have hnsl:ns.length<=3:=by omega
  push_cast[↓uD]
  refine⟨mZ,by decide,?_⟩
  generalize c % 10 ^ 30=val
  have I2:=I.same s2
  have nBnl:¬ S.B nl:=λf=>(I.there f).1 hnlH
  have hhl2:=s2 _ _ hhl
  obtain⟨dx,hob⟩:=I2.b0.bk.ob
  push_cast[↓uF]
  refine A7 (SqL.of hhl2) (n:=0) rfl rfl ⟨S.A.b,rfl,_,_,hob,B0 (by decide +kernel),_,.inl (SqL.of en2),λh hh=> ?_⟩
  have s3:=AW (o:=.lst (ns.map V.int)) hh
  have eh:upd H2 h (.lst (ns.map V.int)) h=some (.lst (ns.map V.int)):=AK
  revert s3 eh
  generalize upd H2 h (.lst (ns.map V.int))=H3
  intro s3 eh
  have I3:=I2.same s3
  have on:FZ rows w pi pj:=⟨i0,i1,j0,j1⟩
  refine⟨S.A,w,rows,n,cs,outs,p,h,.int val,ns,pi,pj,rfl,TT.1,TT.2.1,I3.b0,s3 _ _ ep2,SqL.of eh,by omega,by omega,λ_ _ nd H4 ndr ndm B4 s4=> ?_,λy=>absurd on y,λ_ ⟨x,hx,hn⟩=>absurd (hb x hx) hn⟩
  have dF:∀ x,S.A.F x->¬ S.A'.F x:=λx f f'=>I.ap.h x (.inl f) (.inl f')
  have B4':=I3.b1.sb s4 (λx f=>I3.b0.loose f) dF
  have en4:=s4 _ _ (s3 _ _ en2) λf=>nBnl (.inl (.inl f))
  have ep4:=s4 _ _ (s3 _ _ ep2) λf=>(I3.b0.loose f).1 _ (s3 _ _ ep2)
  have hhl4:=s4 _ _ (s3 _ _ hhl2) λf=>nhl (.inl (.inl f))
  obtain⟨dx',hob'⟩:=B4'.bk.ob
  refine A7 (SqL.of hhl4) (n:=1) rfl rfl ⟨S.A'.b,rfl,_,_,hob',B0 (by decide +kernel),_,.inl (SqL.of en4),λh' hh'=> ?_⟩
  have s5:=AW (o:=.lst (ns.map V.int)) hh'
  have eh':upd H4 h' (.lst (ns.map V.int)) h'=some (.lst (ns.map V.int)):=AK
  revert s5 eh'
  generalize upd H4 h' (.lst (ns.map V.int))=H5
  intro s5 eh'
  have B5':=B4'.same s5
  refine⟨S.A',w,rows,n,cs,outs,p,h',.int val,ns,pi,pj,rfl,TT.1,TT.2.1,B5',s5 _ _ ep4,SqL.of eh',by omega,by omega,λ_ _ nd' H6 ndr' ndm' B6' s6=> ?_,λy=>absurd on y,λ_ ⟨x,hx,hn⟩=>absurd (hb x hx) hn⟩
  obtain rfl:nd'=nd:=cO ndr' ndr λx=>by rw[ndm,ndm']
  have B6:=(B4.same s5).sb s6 (λx f=>B5'.loose f) (λx f f'=>dF x f' f)
  push_cast[]
  have k6:∀ {y:Addr} {o:HO},H y=some o->¬ S.A.F y->¬ S.A'.F y->H6 y=some o:=λe f f'=>s6 _ _ (s5 _ _ (s4 _ _ (s3 _ _ (s2 _ _ e)) f)) f'
  have en6:=s6 _ _ (s5 _ _ en4) λf=>nBnl (.inr (.inl (.inl f)))
  have ep6:=s6 _ _ (s5 _ _ ep4) λf=>(B5'.loose f).1 _ (s5 _ _ ep4)
  have la6:=k6 hla (λf=>I.ap.l.2.2.1 (.inl f)) (λf=>I.ap.l.2.2.2.1 (.inl f))
  have L6:=k6 hL (λf=>I.ap.l.1 (.inl f)) (λf=>I.ap.l.2.1 (.inl f))
  have nlL:nl≠S.L:=λy=>nBnl (.inr (.inr (.inl y)))
  have nlla:nl≠S.la:=λy=>nBnl (.inr (.inr (.inr y)))
  have nLl:=I.ap.l.2.2.2.2
  have npla:p≠S.la:=A6 ep6 la6 (by intro z;cases z)
  have npL:p≠S.L:=A6 ep6 L6 (by intro z;cases z)
  have fin:∀ (H7:Hp) (xs':List Int),SameBut (· =nl) H6 H7->H7 nl=some (.lst (xs'.map V.int))->(∀ x,x∈xs'↔x∈nd')->xs'.length<=10->∀ t,upd H7 S.la (.dT (CA kvs [.inl pi,.inl pj] (.int cs.length))) t=none →
    ∀ H8,H8=upd (upd (upd H7 S.la (.dT (CA kvs [.inl pi,.inl pj] (.int cs.length)))) t (.tup [.ref p,.ref nl])) S.L (.lst (tl.map V.ref++[.ref t]))->Q (.bl true) H8:=λH7 xs' s7 e7 m7 l7 t ht H8 eH8=>by
   have la7:=s7 _ _ la6 nlla.symm
   have L7:=s7 _ _ L6 nlL.symm
   have p7:=s7 _ _ ep6 (A6 ep6 en6 (by intro z;cases z))
   have tla:t≠S.la:=λy=>by rw[y,AK]at ht;cases ht
   have ht7:H7 t=none:=by rw[AH tla]at ht;exact ht
   have tL:t≠S.L:=λy=>by rw[y,L7]at ht7;cases ht7
   have kp:∀ y,y≠S.L->y≠t->y≠S.la->H8 y=H7 y:=λy n1 n2 n3=>by rw[eH8,AH n1,AH n2,AH n3]
   have k78:∀ {y:Addr} {o:HO},H7 y=some o->y≠S.L->y≠S.la->H8 y=some o:=λe n1 n2=>by rw[kp _ n1 (AY e ht7) n2];exact e
   have G8:SameBut (λy=>y=nl\/y=S.la\/y=S.L) H6 H8:=λy o e ny=>k78 (s7 _ _ e λu=>ny (.inl u)) (λu=>ny (.inr (.inr u))) (λu=>ny (.inr (.inl u)))
   have lo8:∀ y,(y=nl\/y=S.la\/y=S.L)->EL (H6 y):=by
    rintro y (u | u | u)
    ·exact G7 (u ▸ en6)
    ·exact PJ (u ▸ la6)
    ·exact G7 (u ▸ L6)
   have nf8:∀ y,(y=nl\/y=S.la\/y=S.L)->¬ S.A.F y:=by
    rintro y (u | u | u)
    ·exact u ▸ λf=>nBnl (.inl (.inl f))
    ·exact u ▸ λf=>I.ap.l.2.2.1 (.inl f)
    ·exact u ▸ λf=>I.ap.l.1 (.inl f)
   have nf8':∀ y,(y=nl\/y=S.la\/y=S.L)->¬ S.A'.F y:=by
    rintro y (u | u | u)
    ·exact u ▸ λf=>nBnl (.inr (.inl (.inl f)))
    ·exact u ▸ λf=>I.ap.l.2.2.2.1 (.inl f)
    ·exact u ▸ λf=>I.ap.l.2.1 (.inl f)
   have hL8:H8 S.L=some (.lst ((tl++[t]).map V.ref)):=by rw[eH8,AK,List.map_append];rfl
   have s08:SameBut S.B H H8:=λy o e ny=>G8 _ _ (k6 e (λf=>ny (.inl (.inl f))) (λf=>ny (.inr (.inl (.inl f))))) (by
    rintro (u | u | u)
    ·rw[u,hnlH]at e;cases e
    ·exact ny (.inr (.inr (.inr u)))
    ·exact ny (.inr (.inr (.inl u))))
   have tp:∀ {y:Addr} {xs:List V},H y=some (.tup xs)->H8 y=some (.tup xs):=λe=>s08 _ _ e λf=>(I.there f).2 _ e
   have e1:((pi.toNat:Nat):Int)=pi:=by omega
   have e2:((pj.toNat:Nat):Int)=pj:=by omega
   refine q rows n (cs++[⟨pi.toNat,pj.toNat,.int val,nd'⟩]) outs H8 ⟨B6.sb G8 lo8 nf8,B6'.sb G8 lo8 nf8',⟨tl++[t],hL8,Paired.snoc (Paired.mapP own λt' ch ⟨pl',nl',ns',h1,h2,h3,h4,h5⟩=>⟨pl',nl',ns',tp h1,tp h2,s08 _ _ h3 h4,h4,h5⟩) ⟨p,nl,xs',?_,?_,k78 e7 nlL nlla,nBnl,m7,l7⟩⟩,⟨CA kvs [.inl pi,.inl pj] (.int cs.length),?_,λi' j'=> ?_,?_,λpr hpr=> ?_⟩,I.fl,λch hch=> ?_,I.ap,I.sz⟩ rfl (by simp) s08
   ·rw[eH8,AH tL,AK]
   ·rw[k78 p7 npL npla]
    show some (HO.tup [.int pi,.int pj])=some (HO.tup [.int ((pi.toNat:Nat):Int),.int ((pj.toNat:Nat):Int)])
    rw[e1,e2]
   ·rw[eH8,AH nLl.symm,AH tla.symm,AK]
   ·rw[OC,WK]
    by_cases y:i'=pi/\j'=pj
    ·obtain⟨rfl,rfl⟩:=y
     simp[e1,e2]
    ·have y1:¬ ([Sum.inl i',Sum.inl j']:List AS)=[.inl pi,.inl pj]:=λu=>y (by simpa using u)
     have y2:¬ (((pi.toNat:Nat):Int)=i'/\((pj.toNat:Nat):Int)=j'):=λu=>y ⟨by omega,by omega⟩
     rw[if_neg y1,if_neg y2]
     exact hv i' j'
   ·have:=IC kvs [.inl pi,.inl pj] (.int cs.length)
    simp;omega
   ·rcases zF hpr with e | ⟨pr',h',e⟩
    ·exact⟨pi,pj,e⟩
    ·rw[<-e];exact hkk pr' h'
   ·rcases List.mem_append.mp hch with h' | h'
    ·exact I.vl ch h'
    ·rw[List.mem_singleton.mp h'];exact⟨val,rfl⟩
  push_cast[↓uH]
  refine⟨_,O3 la6 ep6,?_⟩
  rw[hv]
  have ends2:∀ (H7:Hp) (xs':List Int),SameBut (· =nl) H6 H7->H7 nl=some (.lst (xs'.map V.int))->(∀ x,x∈xs'↔x∈nd')->xs'.length<=10 →
    RW K a (λ_=>E) (λ_=>E) { nx:=AJ (RX K a (λ_=>E) λ_=>E) (RY K a (λ_=>E) λ_=>E) (BB Q),rt:=Q } [some (V.ref hl),some (V.int c),some (V.ref z),some (V.ref S.L),some (V.ref S.la),none,some (V.ref p),some (V.ref nl),z1,some (V.int val)] H7:=λH7 xs' s7 e7 m7 l7=>by
   have la7:=s7 _ _ la6 nlla.symm
   have L7:=s7 _ _ L6 nlL.symm
   have p7:=s7 _ _ ep6 (A6 ep6 en6 (by intro z;cases z))
   push_cast[↓uI,↓uJ,↓uK]
   refine⟨cs.length,.inl ⟨_,SqL.of L7,by rw[List.length_map,htl]⟩,_,WA la7 p7 (by omega),.inl ⟨rfl,_,SqL.of (by rw[AH nLl];exact L7)⟩,by decide,λt ht=> ?_⟩
   have tL:S.L≠t:=λy=>by rw[<-y,AH nLl,L7]at ht;cases ht
   refine⟨S.L,_,_,rfl,rfl,by rw[AH tL,AH nLl];exact L7,Nat.lt_of_lt_of_le (show(tl.map V.ref).length<1000 by rw[List.length_map,htl];omega) (by decide),?_⟩
   exact fin H7 xs' s7 e7 m7 l7 t ht _ rfl
  cases hnew:D0 cs pi pj with
  | none =>
   rw[Option.map_none]
   refine CC (by simp) ?_
   exact ends2 H6 ns (SameBut.refl _) en6 (λx=>by rw[ndm,hnew];simp) (by omega)
  | some k =>
   rw[Option.map_some]
   refine GR rfl ?_
   push_cast[↓uG]
   refine⟨.inl ⟨rfl,_,SqL.of en6⟩,_,pJ la6 ep6 (by rw[hv,hnew];rfl),nl,_,_,rfl,rfl,en6,Nat.lt_of_lt_of_le (show(ns.map V.int).length<1000 by rw[List.length_map];omega) (by decide),?_⟩
   exact ends2 _ (ns++[(k:Int)]) (λy o e ny=>by rw[AH ny];exact e) (by rw[AK,List.map_append];rfl) (λx=>by rw[ndm,hnew,List.mem_append,List.mem_singleton];simp) (by simp;omega)
theorem zI(h:K9 K a vs H Q E):vs.length=5:=by
 obtain⟨_,_,_,_,_,_,_,_,_,rfl,_⟩:=h
 rfl
theorem NO{p e0:Addr}{l:List Nat}(h1:H p=some (.lst (BI l)))(h2:H e0=some (.lst []))(q:Q (.bl (!decide (l=[]))) H):BQ K (.ref p) (.ref e0) H Q:=by
 obtain⟨ds,hds⟩:=SE (K:=K) (H:=H) l
 refine WD (n:=1) (by decide) (SqL.of h1) hds (SqL.of h2) ?_
 have:decide (BI l=[])=decide (l=[]):=by
  unfold BI
  rw[decide_eq_decide,List.map_eq_nil_iff]
 rw[this]
 exact q
theorem zJ{row:List V}{l l':Addr}(hf:∀ v∈row,v=.non\/∃ i,v=.int i)(h1:H l=some (.lst row))(h2:H l'=some (.lst row))(q:Q (.bl false) H):BQ K (.ref l) (.ref l') H Q:=by
 have:∀ (r:List V),(∀ v∈r,v=.non\/∃ i,v=.int i)->∃ ds,Paired (Dat K H 1) r ds:=λr=>by
  induction r with
  | nil=>exact λ_=>⟨[],.nil⟩
  | cons x r ih =>
   intro h
   obtain⟨ds,hd⟩:=ih λv hv=>h v (List.mem_cons_of_mem _ hv)
   rcases h x List.mem_cons_self with rfl | ⟨i,rfl⟩
   ·exact⟨_,.cons Dat.non hd⟩
   ·exact⟨_,.cons (Dat.int i) hd⟩
 obtain⟨ds,hd⟩:=this row hf
 exact WC (n:=2) (by decide) (Dat.lst (SqL.of h1) hd) (Dat.lst (SqL.of h2) hd) q
theorem SF{kind m:Nat}{cs:List Ch}{outs:Int->Bool}{t:Nat}{rows:List (List V)}(fl:F0 rows)(vl:IP cs):∀ i,F0 (CV kind m cs outs t rows i)
 | 0=>fl
 | i+1=>by
  show F0 ((CV kind m cs outs t rows i).set _ _)
  cases e:(CV kind m cs outs t rows i)[D9 kind m cs outs t i]? with
  | none =>
   rw[List.set_eq_of_length_le (List.getElem?_eq_none_iff.mp e)]
   exact SF fl vl i
  | some row =>
   rw[List.getD_eq_getElem?_getD,e]
   exact cQ (SF fl vl i) vl e
structure LF(a:Ad)(H:Hp)(S:WS)(w m:Nat)(rA rB:List (List V))(nA nB:Nat)(cs:List Ch)(oA oB:Int->Bool)(z pk hl bl:Addr)(bs:List V):Prop where
 b0:A1 a H S.A w rA nA cs oA
 b1:A1 a H S.A' w rB nB cs oB
 ow:OwnL S.B H S.L cs
 la:LastD H S.la cs
 hz:H z=some (.tup [.int m,.int w])
 hhl:H hl=some (.lst [.ref S.A.b,.ref S.A'.b])
 hpk:H pk=some (.lst [.ref S.A.gp,.ref S.A'.gp])
 hbl:H bl=some (.lst bs)
 ap:S.Ap
 nn:¬ S.B hl/\¬ S.B pk/\¬ S.B bl
section
variable{H':Hp}{S:WS}{w m:Nat}{rA rB rA' rB':List (List V)}{nA nB nA' nB':Nat}{cs:List Ch}{oA oB oA' oB':Int->Bool}{z pk hl bl:Addr}{bs:List V}
theorem LF.same(L:LF a H S w m rA rB nA nB cs oA oB z pk hl bl bs)(s:Same H H'):LF a H' S w m rA rB nA nB cs oA oB z pk hl bl bs :=
 ⟨L.b0.same s,L.b1.same s,L.ow.same s,L.la.keep λo e=>s _ _ e,s _ _ L.hz,s _ _ L.hhl,s _ _ L.hpk,s _ _ L.hbl,L.ap,L.nn⟩
theorem LF.sw{br:Addr}{kd t:Nat}(L:LF a H S w m rA rB nA nB cs oA oB z pk hl bl bs)(hbr:BroomAt a H br kd t)(B:A1 a H' S.A w rA' nA' cs oA')(s:SameBut (λx=>S.A.W x\/x=br) H H'):LF a H' S w m rA' rB nA' nB cs oA' oB z pk hl bl bs:=by
 obtain⟨C,dx,fs,e',l1⟩:=hbr.few
 have tp:∀ {x:Addr} {xs:List V},H x=some (.tup xs)->H' x=some (.tup xs):=λe=>s _ _ e λf=>by
  rcases f with f | f
  ·exact GS L.b0 f _ e
  ·rw[f,e']at e;cases e
 have li:∀ {x:Addr} {xs:List V},H x=some (.lst xs)->¬ S.A.W x->H' x=some (.lst xs):=λe nf=>s _ _ e λf=>by
  rcases f with f | f
  ·exact nf f
  ·rw[f,e']at e;cases e
 refine⟨B,?_,?_,?_,tp L.hz,li L.hhl λf=>L.nn.1 (.inl f),li L.hpk λf=>L.nn.2.1 (.inl f),li L.hbl λf=>L.nn.2.2 (.inl f),L.ap,L.nn⟩
 ·have st:SameBut S.A.W H (λx=>if x=br then H br else H' x):=λy o e ny=>by
   by_cases z:y=br
   ·subst z;simpa using e
   ·simp only[z,if_false]
    exact s _ _ e λf=>f.elim ny z
  refine BookAt.kept (L.b1.apart L.b0 (λx f f'=>L.ap.h x f' f) st) λx o e two=> ?_
  by_cases z:x=br
  ·subst z
   simp only[if_true]at e
   rw[e']at e;cases e
   have:=two _ _ _ rfl
   omega
  ·simpa [z]using e
 ·obtain⟨tl,e,p⟩:=L.ow
  exact⟨tl,li e L.ap.l.1,Paired.mapP p λt c ⟨pl,nl,ns,h1,h2,h3,h4,h5⟩=>⟨pl,nl,ns,tp h1,tp h2,li h3 (λf=>h4 (.inl f)),h4,h5⟩⟩
 ·refine L.la.keep λo e=>s _ _ e λf=> ?_
  rcases f with f | f
  ·exact L.ap.l.2.2.1 f
  ·obtain⟨kvs,e2,_⟩:=L.la
   rw[f,e']at e2;cases e2
theorem LF.rp(L:LF a H S w m rA rB nA nB cs oA oB z pk hl bl bs)(B:A1 a H' S.A' w rB' nB' cs oB')(s:SameBut S.A'.W H H'):LF a H' S w m rA rB' nA nB' cs oA oB' z pk hl bl bs :=
 ⟨L.b0.apart L.b1 L.ap.h s,B,L.ow.sb s (λx f=>.inr (.inl f)) L.ap.l.2.1 (λx f=>GS L.b1 f),L.la.keep λo e=>s _ _ e L.ap.l.2.2.2.1,s _ _ L.hz λf=>GS L.b1 f _ L.hz,s _ _ L.hhl λf=>L.nn.1 (.inr (.inl f)),s _ _ L.hpk λf=>L.nn.2.1 (.inr (.inl f)),s _ _ L.hbl λf=>L.nn.2.2 (.inr (.inl f)),L.ap,L.nn⟩
end
theorem zK{s z pk hl bl tu br bx:Addr}{first:Int}{k kd kx beg tx:Nat}{y7 y9 y13 y14 y15:Option V}{S:WS}{w:Nat}{rows:List (List V)}{n:Nat}{cs:List Ch}{outs:Int->Bool}{bs:List V}(TT:D1 K a)(L0:LF a H S w rows.length rows rows n n cs outs outs z pk hl bl bs)(fl:F0 rows)(vl:IP cs)(hsz:1<=rows.length/\rows.length<=6/\1<=w/\w<=4)(hcs:cs.length<=80)
  (ek:bs[k]? =some (.ref br)) (ex:bs[1 - k % 2]? =some (.ref bx)) (hbr:BroomAt a H br kd beg) (hbx:BroomAt a H bx kx tx) (nbx:bx≠br) (hk:k<=3) (hkd:kd=min k 2) (hkx:kx<=2) (q:∀ H',Q (.bl true) H') :
  AJ (IQ K a (λ_=>E) (λ_=>E)) (AJ (IR K a (λ_=>E) (λ_=>E)) (AJ (IS K a (λ_=>E) (λ_=>E)) (AJ (IT K a (λ_=>E) (λ_=>E)) (AJ (IU K a (λ_=>E) (λ_=>E)) (AJ (IV K a (λ_=>E) (λ_=>E)) (AJ (IW K a (λ_=>E) (λ_=>E)) (IX K a (λ_=>E) (λ_=>E)))))))) (BB Q) [some (.ref s),some (.int first),some (.ref z),some (.ref pk),some (.ref hl),some (.ref S.L),some (.ref S.la),y7,some (.ref bl),y9,some (.ref tu),some (.int k),some (.int beg),y13,y14,y15] H:=by
 obtain⟨hr,hr',hw,hw'⟩:=hsz
 obtain⟨dp,hgp⟩:=L0.b0.pk.ob
 push_cast[↓vY]
 refine A7 (SqL.of L0.hpk) (n:=0) rfl rfl ⟨S.A.gp,rfl,_,_,hgp,cF _ _ _,_,_,_,_,_,rfl,TT.2.1,L0.b0.pk,?_⟩
 push_cast[↓vZ]
 refine A7 (SqL.of L0.hhl) (n:=0) rfl rfl (A7 (SqL.of L0.hbl) (n:=k) rfl ek ?_)
 refine⟨br,kd,beg,S.A,w,rows,n,cs,outs,rfl,TT,L0.b0,hr,by omega,by omega,hbr,by omega,λl N H1 sw hN hl0 el B1 br1 s1=> ?_⟩
 have nm:cs.length * rows.length<=80 * 6:=Nat.mul_le_mul hcs hr'
 have tlen:(BI (DG kd rows.length cs outs beg N)).length=N:=by simp[BI,DG]
 have L1:=L0.sw hbr B1 s1
 have bx1:=hbx.keep (H':=H1) λo e=>s1 _ _ e λf=>f.elim (hbx.noW L0.b0) nbx
 obtain⟨dp1,hgp1⟩:=B1.pk.ob
 push_cast[↓v1]
 refine FS (.inl (.lst el)) (.ty _) (b:=true) rfl ⟨true,rfl,CC (by decide) ?_⟩
 refine A7 (SqL.of L1.hpk) (n:=0) rfl rfl ⟨S.A.gp,rfl,_,_,hgp1,cF _ _ _,_,_,_,_,_,rfl,TT.2.1,B1.pk,?_⟩
 push_cast[]
 refine⟨N,.inl ⟨_,SqL.of el,tlen.symm⟩,CC (by omega) ?_⟩
 push_cast[↓v3]
 have ekd:(if(2:Int)<(k:Int)then(2:Int)else(k:Int))=((kd:Nat):Int):=by rw[hkd];split<;>omega
 rw[ekd]
 refine A7 (SqL.of L1.hhl) (n:=1) rfl rfl ⟨l,S.L,z,kd,beg,N,S.A',w,rows,n,cs,outs,S.B,rfl,TT,L1.b1,hr,by omega,by omega,L1.ow,λx f=>.inr (.inl f),L1.ap.l.2.1,λf=>EB L0.b1 hl0 f,L1.hz,by omega,sw,by omega,el,λH2 B2 s2=>⟨true,rfl,CC (by decide) ?_⟩⟩
 have L2:=L1.rp B2 s2
 have br2:=br1.keep (H':=H2) λo e=>s2 _ _ e (br1.noW L1.b1)
 have bx2:=bx1.keep (H':=H2) λo e=>s2 _ _ e (bx1.noW L1.b1)
 have el2:=s2 _ _ el λf=>EB L0.b1 hl0 f
 have fN:=SF (kind:=kd) (m:=rows.length) (outs:=outs) (t:=beg) fl vl N
 have rl:=HH (kind:=kd) (m:=rows.length) (cs:=cs) (outs:=outs) (t:=beg) (rows:=rows) N
 push_cast[↓v5]
 obtain⟨dx2,hb2⟩:=L2.b0.bk.ob
 refine A7 (SqL.of L2.hhl) (n:=0) rfl rfl ⟨S.A.b,rfl,_,_,hb2,B0 (by decide +kernel),S.A,w,_,_,cs,_,rfl,TT.1,L2.b0,λwl H3 hwl s3 ewl=>⟨by decide,λe0 he0=> ?_⟩⟩
 have s4:=AW (o:=.lst []) he0
 have ee0:upd H3 e0 (.lst []) e0=some (.lst []):=AK
 revert s4 ee0
 generalize upd H3 e0 (.lst [])=H4
 intro s4 ee0
 refine NO (s4 _ _ ewl) ee0 ?_
 rw[sw.2]
 push_cast[]
 have s24:=s3.trans s4
 have L4:=L2.same s24
 have bx4:=bx2.keep (H':=H4) λo e=>s24 _ _ e
 have br4:=br2.keep (H':=H4) λo e=>s24 _ _ e
 have el4:=s24 _ _ el2
 clear L2 bx2 br2
 refine A7 (SqL.of L4.hhl) (n:=0) rfl rfl (A7 (SqL.of L4.hbl) (n:=1 - k % 2) (by omega) ex ?_)
 refine⟨bx,kx,tx,S.A,w,_,_,cs,_,rfl,TT,L4.b0,by rw[rl];exact hr,by rw[rl];omega,by omega,bx4,hkx,λl5 N5 H5 sw5 hN5 hl5 el5 B5 bx5 s5=> ?_⟩
 have z5:N5=0:=by
  cases N5 with
  | zero=>rfl
  | succ j=>exact absurd sw.2 (sw5.1 0 (by omega))
 subst z5
 have L5:=L4.sw bx4 B5 s5
 have br5:=br4.keep (H':=H5) λo e=>s5 _ _ e λf=>f.elim (br4.noW L4.b0) λz=>nbx z.symm
 have el5':H5 l=some (.lst (BI (DG kd rows.length cs outs beg N))):=s5 _ _ el4 λf=>by
  rcases f with f | f
  ·exact EB L0.b0 hl0 f
  ·obtain⟨C,dx,fs,e',_⟩:=bx4.few
   rw[<-f,el4]at e';cases e'
 refine⟨by decide,λe1 he1=> ?_⟩
 have s6:=AW (o:=.lst []) he1
 have ee1:upd H5 e1 (.lst []) e1=some (.lst []):=AK
 revert s6 ee1
 generalize upd H5 e1 (.lst [])=H6
 intro s6 ee1
 refine NO (s6 _ _ el5) ee1 ?_
 have L6:=L5.same s6
 refine⟨false,rfl,CC (by decide) ⟨first,rfl,TT,λH7 s7=>⟨true,rfl,CC (by decide) ?_⟩⟩⟩
 have L7:=L6.same s7
 have s57:=s6.trans s7
 have br7:=br5.keep (H':=H7) λo e=>s57 _ _ e
 have el7:=s57 _ _ el5'
 clear L6 L5 L4 L1
 push_cast[↓v8]
 refine CI L7.hz (n:=0) rfl rfl ⟨rows.length,rfl,by omega,by omega,?_⟩
 rw[Int.toNat_natCast]
 refine FR (λi σ H'=>Same H7 H'/\∃ y15,σ=[some (.ref s),some (.int first),some (.ref z),some (.ref pk),some (.ref hl),some (.ref S.L),some (.ref S.la),y7,some (.ref bl),y9,some (.ref tu),some (.int k),some (.int beg),some (.int n),some (.ref l),y15]) ⟨Same.refl _,_,rfl⟩ (λi σ H8 hi ⟨s8,y15,eσ⟩=> ?_) (λσ H8 ⟨s8,y15,eσ⟩=> ?_)
 ·subst eσ
  have L8:=L7.same s8
  obtain⟨dp8,hg8⟩:=L8.b0.pk.ob
  push_cast[↓v7,Int.zero_add]
  have er:=List.getElem?_eq_getElem (l:=CV kd rows.length cs outs beg rows N) (i:=i) (by rw[rl];exact hi)
  revert er
  generalize (CV kd rows.length cs outs beg rows N)[i]'(by rw[rl];exact hi)=row
  intro er
  refine A7 (SqL.of L8.hpk) (n:=0) rfl rfl ⟨S.A.gp,rfl,_,_,hg8,R9 _ _ _,S.A.gp,S.A.cl,w,_,_,i,rfl,TT.2.1,L8.b0.pk,λi' row' ei er' l1 hl1=> ?_,λz=> ?_⟩
  ·obtain rfl:i=i':=by omega
   have er'':(CV kd rows.length cs outs beg rows N)[i]? =some row':=er'
   rw[er]at er''
   cases er''
   have s9:=AW (o:=.lst row) hl1
   have e9:upd H8 l1 (.lst row) l1=some (.lst row):=AK
   revert s9 e9
   generalize upd H8 l1 (.lst row)=H9
   intro s9 e9
   have L9:=L8.same s9
   obtain⟨dp9,hg9⟩:=L9.b1.pk.ob
   refine A7 (SqL.of L9.hpk) (n:=1) rfl rfl ⟨S.A'.gp,rfl,_,_,hg9,R9 _ _ _,S.A'.gp,S.A'.cl,w,_,_,i,rfl,TT.2.1,L9.b1.pk,λi' row' ei er' l2 hl2=> ?_,λz=> ?_⟩
   ·obtain rfl:i=i':=by omega
    rw[er]at er'
    cases er'
    have s10:=AW (o:=.lst row) hl2
    refine zJ (fN row (List.mem_of_getElem? er)) (s10 _ _ e9) AK ?_
    push_cast[]
    exact(s8.trans s9).trans s10
   ·rw[rl]at z;omega
  ·have z':(i:Int)<0\/((CV kd rows.length cs outs beg rows N).length:Int)<=i:=z
   rw[rl]at z';omega
 ·subst eσ
  have L8:=L7.same s8
  have br8:=br7.keep (H':=H8) λo e=>s8 _ _ e
  have el8:=s8 _ _ el7
  clear L7 br7 el7
  push_cast[↓wA]
  refine A7 (SqL.of L8.hhl) (n:=0) rfl rfl ⟨S.A,S.L,S.la,w,_,_,cs,_,S.B,rfl,TT,L8.b0,L8.ow,λf=>L8.ap.l.1 (.inl f),λf=>L8.ap.l.2.2.1 (.inl f),L8.la,by omega,?_,hw,λc9 H9 B9 s9=>⟨true,rfl,CC (by decide) ?_⟩⟩
  ·show 1<=(CV kd rows.length cs outs beg rows N).length
   rw[rl];exact hr
  push_cast[↓wB]
  by_cases hk2:k<2
  ·refine GR (by omega) ?_
   exact q _
  ·refine CC (by omega) ?_
   have kd2:kd=2:=by omega
   subst kd2
   obtain⟨kvs,hla,_⟩:=L8.la
   have li:∀ {x:Addr} {xs:List V},H8 x=some (.lst xs)->¬ S.A.F x->H9 x=some (.lst xs):=λe nf=>s9 _ _ e λf=>by
    rcases f with f | f
    ·exact nf f
    ·rw[f,hla]at e;cases e
   have hz9:H9 z=some (.tup [.int rows.length,.int w]):=s9 _ _ L8.hz λf=>by
    rcases f with f | f
    ·exact(L8.b0.loose f).1 _ L8.hz
    ·have:=L8.hz
     rw[f,hla]at this;cases this
   have br9:=br8.keep (H':=H9) λo e=>s9 _ _ e λf=>by
    rcases f with f | f
    ·exact br8.noW L8.b0 (.inl f)
    ·obtain⟨C,dx,fs,e',_⟩:=br8.few
     rw[f,hla]at e';cases e'
   refine A7 (SqL.of (li L8.hbl λf=>L8.nn.2.2 (.inl (.inl f)))) (n:=k) rfl ek (A7 (SqL.of (li L8.hhl λf=>L8.nn.1 (.inl (.inl f)))) (n:=0) rfl rfl ?_)
   refine⟨N,.inl ⟨_,SqL.of (li el8 λf=>EB L0.b0 hl0 (.inl f)),tlen.symm⟩,CI hz9 (n:=0) rfl rfl ⟨_,_,rfl,rfl,show(0:Int)<rows.length by omega,?_⟩⟩
   refine⟨br,2,beg+N,S.A,w,_,_,_,_,?_,TT,B9,br9,by omega,?_,?_,λz=>by omega,λH' _ _ _=>q H'⟩
   ·show [V.ref br,V.ref S.A.b,V.int (((beg:Int)+(N:Int)) % (rows.length:Int))]=[V.ref br,V.ref S.A.b,V.int (((beg+N) % (CV 2 rows.length cs outs beg rows N).length:Nat):Int)]
    rw[rl]
    simp
   ·show 1<=(CV 2 rows.length cs outs beg rows N).length
    rw[rl];exact hr
   ·show(CV 2 rows.length cs outs beg rows N).length<=1000
    rw[rl];omega
theorem cS{s z pk hl bl tu b0 b1 b2 b3:Addr}{first:Int}{t0 t1 u0 u1:Nat}{y7 y9:Option V}{S:WS}{w:Nat}{rows:List (List V)}{n:Nat}{cs:List Ch}{outs:Int->Bool}(TT:D1 K a)(L0:LF a H S w rows.length rows rows n n cs outs outs z pk hl bl [.ref b0,.ref b1,.ref b2,.ref b3])(fl:F0 rows)(vl:IP cs)(hsz:1<=rows.length/\rows.length<=6/\1<=w/\w<=4)(hcs:cs.length<=80)
  (F4:Four a H b0 b1 b2 b3 u0 u1) (htu:H tu=some (.lst [.int t0,.int t1])) (hu:(AX cs.length outs≠[]->u0=t0/\u1=t1)/\(AX cs.length outs=[]->u0=0/\u1=0)) (ht:t0<=100/\t1<=100) (q:∀ H',Q (.bl true) H') :
  AJ (NH K a (λ_=>E) (λ_=>E)) (AJ (NI K a (λ_=>E) (λ_=>E)) (AJ (IQ K a (λ_=>E) (λ_=>E)) (AJ (IR K a (λ_=>E) (λ_=>E)) (AJ (IS K a (λ_=>E) (λ_=>E)) (AJ (IT K a (λ_=>E) (λ_=>E)) (AJ (IU K a (λ_=>E) (λ_=>E)) (AJ (IV K a (λ_=>E) (λ_=>E)) (AJ (IW K a (λ_=>E) (λ_=>E)) (IX K a (λ_=>E) (λ_=>E)))))))))) (BB Q) [some (.ref s),some (.int first),some (.ref z),some (.ref pk),some (.ref hl),some (.ref S.L),some (.ref S.la),y7,some (.ref bl),y9,some (.ref tu),none,none,none,none,none] H:=by
 push_cast[↓vW,↓EV]
 have p1:=D8 (c:=first) (p:=10099) (m:=4) (by decide)
 have p2:=EM (c:=first) (p:=10099) (m:=4) (by decide)
 obtain⟨k,ek⟩:∃ k:Nat,CJ first 10099 4=k:=⟨(CJ first 10099 4).toNat,by omega⟩
 rw[ek]
 have hk:k<=3:=by omega
 push_cast[↓vX]
 obtain⟨dx,hb⟩:=L0.b0.bk.ob
 obtain⟨n1,n2,n3,n4,n5,n6⟩:=F4.ne
 have CW:∀ {tt:Nat} {br bx:Addr} {kd kx:Nat},tt<=100->BroomAt a H br kd (if AX cs.length outs=[]then 0 else tt)->BroomAt a H bx kx 0->kx<=2->kd=min k 2->bx≠br->([V.ref b0,.ref b1,.ref b2,.ref b3]:List V)[k]? =some (.ref br)->([V.ref b0,.ref b1,.ref b2,.ref b3]:List V)[1 - k % 2]? =some (.ref bx) →
   AT K (V.ref hl) (V.int 0) H λx H1=>∃ a_1,x=V.ref a_1/\∃ x_1 x_2,H1 a_1=some (HO.ins (a "Hold") x_1 x_2)/\List.lookup (Str.ofString "waiting") x_2=none/\C9 K a [x] H1 (λx H1=>0<=sizeLine/\∀ (p:Addr),H1 p=none->BQ K x (V.ref p) (upd H1 p (HO.lst [])) λx H1=>G1 K [x] H1 λy H2=>ES K (V.int tt) y H2 λx H1=>AJ (IQ K a (λ_=>E) (λ_=>E)) (AJ (IR K a (λ_=>E) (λ_=>E)) (AJ (IS K a (λ_=>E) (λ_=>E)) (AJ (IT K a (λ_=>E) (λ_=>E)) (AJ (IU K a (λ_=>E) (λ_=>E)) (AJ (IV K a (λ_=>E) (λ_=>E)) (AJ (IW K a (λ_=>E) (λ_=>E)) (IX K a (λ_=>E) (λ_=>E)))))))) (BB Q) [some (.ref s),some (.int first),some (.ref z),some (.ref pk),some (.ref hl),some (.ref S.L),some (.ref S.la),y7,some (.ref bl),y9,some (.ref tu),some (.int k),some x,none,none,none] H1) E:=λ{tt br bx kd kx} htt hbr hbx hkx hkd nbx e1 e2=>by
  refine A7 (SqL.of L0.hhl) (n:=0) rfl rfl ⟨S.A.b,rfl,_,_,hb,B0 (by decide +kernel),S.A,w,rows,n,cs,outs,rfl,TT.1,L0.b0,λwl H1 hwl s1 ewl=>⟨by decide,λe0 he0=> ?_⟩⟩
  have s2:=AW (o:=.lst []) he0
  have ee0:upd H1 e0 (.lst []) e0=some (.lst []):=AK
  revert s2 ee0
  generalize upd H1 e0 (.lst [])=H2
  intro s2 ee0
  refine NO (s2 _ _ ewl) ee0 ?_
  have s12:=s1.trans s2
  push_cast[]
  have eb:(tt:Int) * (if ¬ AX cs.length outs=[]then 1 else 0)=((if AX cs.length outs=[]then 0 else tt:Nat):Int):=by
   by_cases h:AX cs.length outs=[]<;>simp[h]
  refine⟨.inl ⟨by omega,by omega⟩,?_⟩
  rw[eb]
  exact zK TT (L0.same s12) fl vl hsz hcs e1 e2 (hbr.keep λo e=>s12 _ _ e) (hbx.keep λo e=>s12 _ _ e) nbx hk hkd hkx q
 rcases(by omega:k=0\/k=1\/k=2\/k=3)with rfl | rfl | rfl | rfl
 ·refine WE (SqL.of htu) (n:=0) (by simp) (by simp) rfl ?_
  exact CW ht.1 (kd:=0) F4.k0 F4.k1 (by omega) rfl n1.symm rfl rfl
 ·refine WE (SqL.of htu) (n:=1) (by simp) (by simp) rfl ?_
  exact CW ht.2 (kd:=1) F4.k1 F4.k0 (by omega) rfl n1 rfl rfl
 ·refine A7 (SqL.of htu) (n:=0) (by simp) rfl ?_
  refine CW ht.1 (kd:=2) ?_ F4.k1 (by omega) rfl n4 rfl rfl
  have:=F4.k2
  by_cases h:AX cs.length outs=[]
  ·rw[if_pos h,<-(hu.2 h).1];exact this
  ·rw[if_neg h,<-(hu.1 h).1];exact this
 ·refine A7 (SqL.of htu) (n:=1) (by simp) rfl ?_
  refine CW ht.2 (kd:=2) ?_ F4.k0 (by omega) rfl n3 rfl rfl
  have:=F4.k3
  by_cases h:AX cs.length outs=[]
  ·rw[if_pos h,<-(hu.2 h).2];exact this
  ·rw[if_neg h,<-(hu.1 h).2];exact this
theorem zL(ns:List Int)(k:Int):∃ ms:List Int,FL (ns.map V.int) (some 1) (some k)=ms.map V.int/\ms.length<=ns.length - 1:=by
 unfold FL
 rw[<-List.map_drop,<-List.map_take]
 refine⟨_,rfl,?_⟩
 simp[HT.sIx]
 omega
theorem LF.kept{H':Hp}{S:WS}{w m:Nat}{rA rB:List (List V)}{nA nB:Nat}{cs:List Ch}{oA oB:Int->Bool}{z pk hl bl:Addr}{bs:List V}(L:LF a H S w m rA rB nA nB cs oA oB z pk hl bl bs)(k:Kept H H'):LF a H' S w m rA rB nA nB cs oA oB z pk hl bl bs :=
 ⟨L.b0.kept k,L.b1.kept k,L.ow.kept k,L.la.keep λo e=>k _ _ e (by
  obtain⟨kvs,e2,_⟩:=L.la
  rw[e2]at e
  cases e
  intro _ _ _ z;cases z),k.t L.hz,k.l L.hhl,k.l L.hpk,k.l L.hbl,L.ap,L.nn⟩
theorem zM{s z pk hl:Addr}{first:Int}{y7:Option V}{S:WS}{w:Nat}{rows:List (List V)}{n:Nat}{cs:List Ch}{outs:Int->Bool}(TT:D1 K a)(I:W25 a H S w rows n cs outs)(hcs:cs.length<=80)(hz:H z=some (.tup [.int rows.length,.int w]))(hhl:H hl=some (.lst [.ref S.A.b,.ref S.A'.b]))(hpk:H pk=some (.lst [.ref S.A.gp,.ref S.A'.gp]))(nhl:¬ S.B hl)(npk:¬ S.B pk)(q:∀ H',Q (.bl true) H') :
  AJ (R4 K a (λ_=>E) (λ_=>E)) (AJ (R5 K a (λ_=>E) (λ_=>E)) (AJ (R6 K a (λ_=>E) (λ_=>E)) (AJ (R7 K a (λ_=>E) (λ_=>E)) (AJ (NH K a (λ_=>E) (λ_=>E)) (AJ (NI K a (λ_=>E) (λ_=>E)) (AJ (IQ K a (λ_=>E) (λ_=>E)) (AJ (IR K a (λ_=>E) (λ_=>E)) (AJ (IS K a (λ_=>E) (λ_=>E)) (AJ (IT K a (λ_=>E) (λ_=>E)) (AJ (IU K a (λ_=>E) (λ_=>E)) (AJ (IV K a (λ_=>E) (λ_=>E)) (AJ (IW K a (λ_=>E) (λ_=>E)) (IX K a (λ_=>E) (λ_=>E)))))))))))))) (BB Q) [some (.ref s),some (.int first),some (.ref z),some (.ref pk),some (.ref hl),some (.ref S.L),some (.ref S.la),y7,none,none,none,none,none,none,none,none] H:=by
 push_cast[↓vP]
 have mk:∀ {H:Hp} {x dx C:Addr},H x=none->H dx=none->Same H (upd (upd H dx (.own x)) x (.ins C dx [])):=λhx hdx y o e=>by
  rw[AH (AY e hx),AH (AY e hdx)];exact e
 have mk2:∀ {H:Hp} {x dx C:Addr} {o:HO},H x=none->H dx=none->Same H (upd (upd (upd H dx (.own x)) x (.ins C dx [])) x o):=λhx hdx y o e=>by
  rw[AH (AY e hx),AH (AY e hx),AH (AY e hdx)];exact e
 refine λb0 d0 h0 g0 m0=> ?_
 have s0:=mk (C:=a "Broom") h0 g0
 have f0:BroomAt a (upd (upd H d0 (.own b0)) b0 (.ins (a "Broom") d0 [])) b0 0 0:=⟨d0,AK⟩
 revert s0 f0
 generalize upd (upd H d0 (.own b0)) b0 (.ins (a "Broom") d0 [])=H0
 intro s0 f0
 refine λb1 d1 h1 g1 m1=> ?_
 have s1:=mk (C:=a "Fullest") h1 g1
 have f1:BroomAt a (upd (upd H0 d1 (.own b1)) b1 (.ins (a "Fullest") d1 [])) b1 1 0:=⟨d1,AK⟩
 revert s1 f1
 generalize upd (upd H0 d1 (.own b1)) b1 (.ins (a "Fullest") d1 [])=H1
 intro s1 f1
 refine λb2 d2 h2 g2 m2=>⟨b2,d2,rfl,TT.2.2,AK,rfl,?_⟩
 have s2:=mk2 (C:=a "Round") (o:=.ins (a "Round") d2 [("turns",.int 0)]) h2 g2
 have f2:BroomAt a (upd (upd (upd H1 d2 (.own b2)) b2 (.ins (a "Round") d2 [])) b2 (.ins (a "Round") d2 [("turns",.int 0)])) b2 2 0:=⟨d2,AK⟩
 revert s2 f2
 generalize upd (upd (upd H1 d2 (.own b2)) b2 (.ins (a "Round") d2 [])) b2 (.ins (a "Round") d2 [("turns",.int 0)])=H2
 intro s2 f2
 refine λb3 d3 h3 g3 m3=>⟨b3,d3,rfl,TT.2.2,AK,rfl,by decide,λbl hbl=> ?_⟩
 have s3:=mk2 (C:=a "Round") (o:=.ins (a "Round") d3 [("turns",.int 0)]) h3 g3
 have f3:BroomAt a (upd (upd (upd H2 d3 (.own b3)) b3 (.ins (a "Round") d3 [])) b3 (.ins (a "Round") d3 [("turns",.int 0)])) b3 2 0:=⟨d3,AK⟩
 revert hbl s3 f3
 generalize upd (upd (upd H2 d3 (.own b3)) b3 (.ins (a "Round") d3 [])) b3 (.ins (a "Round") d3 [("turns",.int 0)])=H3
 intro hbl s3 f3
 have s4:=AW (o:=.lst [.ref b0,.ref b1,.ref b2,.ref b3]) hbl
 have e4:upd H3 bl (.lst [.ref b0,.ref b1,.ref b2,.ref b3]) bl=some (.lst [.ref b0,.ref b1,.ref b2,.ref b3]):=AK
 revert s4 e4
 generalize upd H3 bl (.lst [.ref b0,.ref b1,.ref b2,.ref b3])=H4
 intro s4 e4
 have s34:=s3.trans s4
 have s24:=s2.trans s34
 have s14:=s1.trans s24
 have s04:=s0.trans s14
 have dis:∀ {Ha:Hp} {x y:Addr} {kd t:Nat},BroomAt a Ha x kd t->Ha y=none->x≠y:=λb hy e=>by
  obtain⟨_,_,_,e',_⟩:=b.few
  rw[e,hy]at e';cases e'
 have F4:Four a H4 b0 b1 b2 b3 0 0:=⟨f0.keep λo e=>s14 _ _ e,f1.keep λo e=>s24 _ _ e,f2.keep λo e=>s34 _ _ e,f3.keep λo e=>s4 _ _ e,dis f0 h1,dis (f0.keep λo e=>s1 _ _ e) h2,dis (f0.keep λo e=>s2 _ _ (s1 _ _ e)) h3,dis f1 h2,dis (f1.keep λo e=>s2 _ _ e) h3,dis f2 h3⟩
 have nbl:¬ S.B bl:=λf=>(I.there f).1 ((((s0.trans s1).trans s2).trans s3).free hbl)
 have I4:=I.same s04
 have L4:LF a H4 S w rows.length rows rows n n cs outs outs z pk hl bl [.ref b0,.ref b1,.ref b2,.ref b3]:=⟨I4.b0,I4.b1,I4.ow,I4.la,s04 _ _ hz,s04 _ _ hhl,s04 _ _ hpk,e4,I.ap,nhl,npk,nbl⟩
 have sz:=I.sz
 have fl:=I.fl
 have vl:=I.vl
 clear s0 s1 s2 s3 s4 s34 s24 s14 s04 f0 f1 f2 f3 I I4 hz hhl hpk mk mk2
 push_cast[↓vS]
 refine .inl ⟨⟨_,SqL.of e4⟩,E9 (xs:=[.ref b0,.ref b1,.ref b2,.ref b3]) (λi σ H'=>H'=H4/\∃ y9,σ=[some (.ref s),some (.int first),some (.ref z),some (.ref pk),some (.ref hl),some (.ref S.L),some (.ref S.la),y7,some (.ref bl),y9,none,none,none,none,none,none]) ⟨rfl,_,rfl⟩ (λi σ H' _ ⟨e,_⟩=>by rw[e];exact SqL.of e4) (λi v σ H' hx ⟨e,y9,eσ⟩=> ?_) (λσ H' ⟨e,y9,eσ⟩=> ?_)⟩
 ·subst e;subst eσ
  have hi:=(List.getElem?_eq_some_iff.mp hx).1
  simp only[List.length_cons,List.length_nil]at hi
  push_cast[↓vR]
  obtain⟨k0,k1,k2,k3,_⟩:=F4
  obtain⟨c0,k0⟩:=k0
  obtain⟨c1,k1⟩:=k1
  obtain⟨c2,k2⟩:=k2
  obtain⟨c3,k3⟩:=k3
  rcases(by omega:i=0\/i=1\/i=2\/i=3)with rfl | rfl | rfl | rfl<;>cases hx
  ·exact FS (.inl (TT.2.2.ty0 k0)) (.own _) TT.2.2.k0 ⟨true,rfl,CC (by decide) rfl⟩
  ·exact FS (.inl (TT.2.2.ty1 k1)) (.own _) TT.2.2.k1 ⟨true,rfl,CC (by decide) rfl⟩
  ·exact FS (.inl (TT.2.2.ty2 k2)) (.own _) TT.2.2.k2 ⟨true,rfl,CC (by decide) rfl⟩
  ·exact FS (.inl (TT.2.2.ty2 k3)) (.own _) TT.2.2.k2 ⟨true,rfl,CC (by decide) rfl⟩
 subst e;subst eσ
 push_cast[↓vT,↓EV]
 have p1:=D8 (c:=first) (p:=10091) (m:=9) (by decide)
 have p2:=EM (c:=first) (p:=10091) (m:=9) (by decide)
 have p3:=D8 (c:=first) (p:=10093) (m:=9) (by decide)
 have p4:=EM (c:=first) (p:=10093) (m:=9) (by decide)
 obtain⟨t0,e0⟩:∃ t0:Nat,1+CJ first 10091 9=t0:=⟨(1+CJ first 10091 9).toNat,by omega⟩
 obtain⟨t1,e1⟩:∃ t1:Nat,1+CJ first 10093 9=t1:=⟨(1+CJ first 10093 9).toNat,by omega⟩
 rw[e0,e1]
 refine⟨by decide,λtu htu=> ?_⟩
 have s5:=AW (o:=.lst [.int t0,.int t1]) htu
 have e5:upd H' tu (.lst [.int t0,.int t1]) tu=some (.lst [.int t0,.int t1]):=AK
 revert s5 e5
 generalize upd H' tu (.lst [.int t0,.int t1])=H5
 intro s5 e5
 have L5:=L4.same s5
 have F5:=F4.same s5
 push_cast[↓vV]
 obtain⟨dx,hb⟩:=L5.b0.bk.ob
 refine A7 (SqL.of L5.hhl) (n:=0) rfl rfl ⟨S.A.b,rfl,_,_,hb,B0 (by decide +kernel),S.A,w,rows,n,cs,outs,rfl,TT.1,L5.b0,λwl H6 hwl s6 ewl=>⟨by decide,λe6 he6=> ?_⟩⟩
 have s7:=AW (o:=.lst []) he6
 have ee6:upd H6 e6 (.lst []) e6=some (.lst []):=AK
 revert s7 ee6
 generalize upd H6 e6 (.lst [])=H7
 intro s7 ee6
 refine NO (s7 _ _ ewl) ee6 ?_
 have s67:=s6.trans s7
 have L7:=L5.same s67
 have F7:=F5.same s67
 have e7:=s67 _ _ e5
 push_cast[]
 by_cases hw:AX cs.length outs=[]
 ·refine CC (λz=>z hw) ?_
  exact cS TT L7 fl vl sz hcs F7 e7 ⟨λz=>absurd hw z,λ_=>⟨rfl,rfl⟩⟩ ⟨by omega,by omega⟩ q
 ·refine GR hw ?_
  refine A7 (SqL.of L7.hhl) (n:=0) rfl rfl ⟨bl,z,tu,S.L,b0,b1,b2,b3,S.A,w,rows,n,cs,outs,S.B,t0,t1,rfl,TT,L7.b0,L7.ow,sz.1,sz.2.1,by omega,L7.hz,e7,by omega,by omega,L7.hbl,F7,hw,λH8 F8 k8=>⟨true,rfl,CC (by decide) ?_⟩⟩
  exact cS TT (L7.kept k8) fl vl sz hcs F8 (k8.l e7) ⟨λ_=>⟨rfl,rfl⟩,λz=>absurd z hw⟩ ⟨by omega,by omega⟩ q
theorem zN (h:PU K a vs H Q E):R8 K a (λ_=>E) (BB Q) (A8 ["script","first","size","planks","holds","changes","last","cell","brooms","broom","turns","kind","begun","ahead","told","block"] vs) H:=by
  obtain⟨s,ns,rfl,TT,hs,hl,q⟩:=h
  have TT':=TT
  obtain⟨T,TP,X⟩:=TT
  push_cast[R8,↓vG,↓vH,↓EV,↓qO]
  refine⟨ns,0,rfl,hs,by omega,by decide,λz hz0=> ?_⟩
  generalize G9 ns 0=first
  have p1:=D8 (c:=first) (p:=10069) (m:=6) (by decide)
  have p2:=EM (c:=first) (p:=10069) (m:=6) (by decide)
  have p3:=D8 (c:=first) (p:=10079) (m:=4) (by decide)
  have p4:=EM (c:=first) (p:=10079) (m:=4) (by decide)
  obtain⟨m,em⟩:∃ m:Nat,1+CJ first 10069 6=m:=⟨(1+CJ first 10069 6).toNat,by omega⟩
  obtain⟨w,ew⟩:∃ w:Nat,1+CJ first 10079 4=w:=⟨(1+CJ first 10079 4).toNat,by omega⟩
  rw[em,ew]
  have hm:1<=m/\m<=6:=by omega
  have hw:1<=w/\w<=4:=by omega
  have s0:=AW (o:=.tup [.int m,.int w]) hz0
  have ez:upd H z (.tup [.int m,.int w]) z=some (.tup [.int m,.int w]):=AK
  revert s0 ez
  generalize upd H z (.tup [.int m,.int w])=H0
  intro s0 ez
  have hs0:=s0.seq hs
  push_cast[↓vI]
  refine CI ez (n:=0) rfl rfl (CI ez (n:=1) rfl rfl (NJ (m0:=m) (w:=w) TP (by omega) hw.1 (by omega) λgp cl H1 hgp hcl P1 s1=> ?_))
  have ez1:=s1 _ _ ez
  refine CI ez1 (n:=0) rfl rfl (CI ez1 (n:=1) rfl rfl (NJ (m0:=m) (w:=w) TP (by omega) hw.1 (by omega) λgp' cl' H2 hgp' hcl' P2 s2=>⟨by decide,λpk hpk=> ?_⟩))
  have s3:=AW (o:=.lst [.ref gp,.ref gp']) hpk
  have epk:upd H2 pk (.lst [.ref gp,.ref gp']) pk=some (.lst [.ref gp,.ref gp']):=AK
  revert s3 epk
  generalize upd H2 pk (.lst [.ref gp,.ref gp'])=H3
  intro s3 epk
  push_cast[↓vJ]
  have P3:=(P1.same s2).same s3
  have P3':=P2.same s3
  refine A7 (SqL.of epk) (n:=0) rfl rfl (NK T TP P3 λA H4 eg ec fr B4 s4=> ?_)
  have P4':=P3'.same s4
  refine A7 (SqL.of (s4 _ _ epk)) (n:=1) rfl rfl (NK T TP P4' λA' H5 eg' ec' fr' B5 s5=>⟨by decide,λhl5 hhl=> ?_⟩)
  have s6:=AW (o:=.lst [.ref A.b,.ref A'.b]) hhl
  have ehl:upd H5 hl5 (.lst [.ref A.b,.ref A'.b]) hl5=some (.lst [.ref A.b,.ref A'.b]):=AK
  revert s6 ehl
  generalize upd H5 hl5 (.lst [.ref A.b,.ref A'.b])=H6
  intro s6 ehl
  push_cast[↓vK,↓vL]
  refine⟨by decide,λL hL la hla=> ?_⟩
  have s7:=AW (o:=.lst []) hL
  have s8:=AW (o:=.dT []) hla
  have eL:upd (upd H6 L (.lst [])) la (.dT []) L=some (.lst []):=AW hla _ _ AK
  have ela:upd (upd H6 L (.lst [])) la (.dT []) la=some (.dT []):=AK
  have nLl:L≠la:=AY AK hla
  have hla6:H6 la=none:=s7.free hla
  have s78:=s7.trans s8
  revert s78 eL ela
  generalize upd (upd H6 L (.lst [])) la (.dT [])=H8
  intro eL ela s78
  clear s7 s8 hla
  have s38:=((s4.trans s5).trans s6).trans s78
  have s58:=s6.trans s78
  have B8:=(B4.same s5).same s58
  have B8':=B5.same s58
  have ngp:gp≠gp':=by
    obtain⟨dp,e⟩:=P1.ob
    exact AY e hgp'
  have ngpcl:∀ {H:Hp} {p cl c2:Addr} {w n:Nat} {r:List (List V)} {p2:Addr} {w2 n2:Nat} {r2:List (List V)},PlankAt a H p cl w r n->PlankAt a H p2 c2 w2 r2 n2->p≠c2:=λP P'=>by
    obtain⟨dp,e⟩:=P.ob
    obtain⟨ts,e2,_⟩:=P'.ls
    exact A6 e e2 (by intro z;cases z)
  have ncl:cl≠cl':=by
    obtain⟨ts,e,_⟩:=P1.ls
    exact AY e hcl'
  have dW:∀ x,A.W x->¬ A'.W x:=λx f f'=>by
    have e4:H4 x≠none:=λz=>EB B4 z f
    rcases f' with f' | f'
    · cases e:H4 x with
      | none=>exact e4 e
      | some o =>
        rcases fr' x o e with z | z
        · subst z
          rcases f with f | f
          · obtain⟨ts,e3,_⟩:=P3'.ls
            rcases fr _ _ e3 with y | y
            ·exact ncl y.symm
            ·exact y f
          · rw[eg]at f
            exact ngpcl P3 P3' f.symm
        ·exact z f'
    · rw[eg']at f'
      rcases f with f | f
      · obtain⟨dp,e⟩:=B4.loose f |> λl=>P4'.ob
        exact(B4.loose f).2 _ _ _ (f' ▸ e)
      · rw[eg]at f
        exact ngp (f.symm.trans f')
  have n6:∀ {x:Addr},H6 x=none->¬ A.W x/\¬ A'.W x:=λhx=>⟨λf=>EB B4 ((s5.trans s6).free hx) f,λf=>EB B5 (s6.free hx) f⟩
  have nL:=n6 hL
  have nla:=n6 hla6
  have ap:(WS.mk A A' L la).Ap:=⟨dW,nL.1,nL.2,nla.1,nla.2,nLl⟩
  have npk:¬ (WS.mk A A' L la).B pk:=λf=>by
    rcases f with f | f | f | f
    · rcases f with f | f
      · rcases fr _ _ epk with y | y
        · obtain⟨ts,e,_⟩:=P1.ls
          rw[y,s2 _ _ e]at hpk;cases hpk
        ·exact y f
      · obtain⟨dp,e⟩:=P3.ob
        rw[f,show(WS.mk A A' L la).A.gp=gp from eg,e]at epk;cases epk
    · rcases f with f | f
      · rcases fr' _ _ (s4 _ _ epk)with y | y
        · obtain⟨ts,e,_⟩:=P2.ls
          rw[y,e]at hpk;cases hpk
        ·exact y f
      · obtain⟨dp,e⟩:=P3'.ob
        rw[f,show(WS.mk A A' L la).A'.gp=gp' from eg',e]at epk;cases epk
    · have:=((s4.trans s5).trans s6) _ _ epk
      rw[f,hL]at this;cases this
    · have:=((s4.trans s5).trans s6) _ _ epk
      rw[f,hla6]at this;cases this
  have nhl:¬ (WS.mk A A' L la).B hl5:=λf=>by
    rcases f with f | f | f | f
    ·exact EB B4 (s5.free hhl) f
    ·exact EB B5 hhl f
    ·rw[f,hL]at ehl;cases ehl
    ·rw[f,hla6]at ehl;cases ehl
  have hpk8:H8 pk=some (.lst [.ref A.gp,.ref A'.gp]):=by rw[eg,eg'];exact s38 _ _ epk
  have fl0:F0 (List.replicate m (List.replicate w V.non)):=λr hr v hv=>by
    rw[List.eq_of_mem_replicate hr]at hv
    exact .inl (List.eq_of_mem_replicate hv)
  have vl0:IP []:=λc hc=>by cases hc
  have I8:W25 a H8 ⟨A,A',L,la⟩ w (List.replicate m (List.replicate w .non)) 0 [] (λ_=>false):=⟨B8,B8',⟨[],eL,.nil⟩,⟨[],ela,λ_ _=>rfl,Nat.le_refl _,λ_ h=>by cases h⟩,fl0,vl0,ap,by rw[List.length_replicate];exact⟨hm.1,hm.2,hw.1,hw.2⟩⟩
  have s08:=(((s1.trans s2).trans s3).trans s38)
  have z8:=s08 _ _ ez
  have hl8:=s78 _ _ ehl
  push_cast[↓vO]
  refine qA (s08.seq hs0) λr0 hr0=> ?_
  obtain⟨ms,ems,hms⟩:=zL ns 121
  rw[ems]
  have s9:=AW (o:=.lst (ms.map V.int)) hr0
  have e9:upd H8 r0 (.lst (ms.map V.int)) r0=some (.lst (ms.map V.int)):=AK
  have nB0:¬ (WS.mk A A' L la).B r0:=λf=>(I8.there f).1 hr0
  have I9:=I8.same s9
  have z9:=s9 _ _ z8
  have hl9:=s9 _ _ hl8
  have hpk9:=s9 _ _ hpk8
  revert e9 I9 z9 hl9 hpk9
  generalize upd H8 r0 (.lst (ms.map V.int))=H9
  intro e9 I9 z9 hl9 hpk9
  refine⟨r0,rfl,.inl ⟨⟨_,SqL.of e9⟩,E9 (xs:=ms.map V.int) (λi σ H'=>(∃ rows n cs outs,W25 a H' ⟨A,A',L,la⟩ w rows n cs outs/\rows.length=m/\cs.length<=i/\SameBut (WS.mk A A' L la).B H9 H')/\∃ y7,σ=[some (.ref s),some (.int first),some (.ref z),some (.ref pk),some (.ref hl5),some (.ref L),some (.ref la),y7,none,none,none,none,none,none,none,none]) ⟨⟨_,_,_,_,I9,List.length_replicate,Nat.le_refl _,SameBut.refl _⟩,_,rfl⟩ (λi σ H' _ ⟨⟨_,_,_,_,_,_,_,sb⟩,_⟩=>SqL.of (sb _ _ e9 nB0)) (λi v σ H' hx ⟨⟨rows,n,cs,outs,I,hr,hc,sb⟩,y7,eσ⟩=> ?_) (λσ H' ⟨⟨rows,n,cs,outs,I,hr,hc,sb⟩,y7,eσ⟩=> ?_)⟩⟩
  · subst eσ
    have hi:=(List.getElem?_eq_some_iff.mp hx).1
    rw[List.length_map]at hi
    obtain⟨cell,_,rfl⟩:=List.mem_map.mp (List.mem_of_getElem? hx)
    have tk:∀ {y:Addr} {xs:List V},H9 y=some (.tup xs)->H' y=some (.tup xs):=λe=>sb _ _ e λf=>(I9.there f).2 _ e
    push_cast[↓vN]
    refine⟨hl5,z,⟨A,A',L,la⟩,w,rows,n,cs,outs,cell,rfl,TT',I,by omega,by rw[hr];exact tk z9,sb _ _ hl9 nhl,nhl,λrows' n' cs' outs' H2 I2 hr2 hc2 s2'=>⟨true,rfl,CC (by decide) ?_⟩⟩
    exact⟨rows',n',cs',⟨outs',I2⟩,by omega,by omega,sb.trans s2'⟩
  · subst eσ
    have tk:∀ {y:Addr} {xs:List V},H9 y=some (.tup xs)->H' y=some (.tup xs):=λe=>sb _ _ e λf=>(I9.there f).2 _ e
    rw[List.length_map]at hc
    exact zM TT' I (by omega) (by rw[hr];exact tk z9) (sb _ _ hl9 nhl) (sb _ _ hpk9 npk) nhl npk q
theorem zO(h:PU K a vs H Q E):vs.length=1:=by
 obtain⟨_,_,rfl,_⟩:=h
 rfl
end
end L2
namespace L2
def top(i:Nat):Stmt:=PySem.Challenge.pw_holdback_k25_brooms.main.body.getD i (.Pass ⟨0,0,0,0⟩)
structure Txt(K:W.Frag)(mg:Str->Option Value)(a:Ad):Prop where
 SZ:Cls K (a "Broom")
 Ek:Cls K (a "Change")
 S0:Cls K (a "Fullest")
 BY:Cls K (a "Hold")
 EE:Cls K (a "Plank")
 NU:Cls K (a "Round")
 Em:M4 K mg (a "Broom") "Broom"
 Ep:M4 K mg (a "Fullest") "Fullest"
 Fj:mg "Broom"=some (.ref (a "Broom"))
 El:GV mg "Broom" (.ref (a "Broom"))
 S4:mg "NoBlock"=some (.ref (a "NoBlock"))
 Fg:GV mg "NoBlock" (.ref (a "NoBlock"))
 S5:Exc K (a "NoBlock")
 Ev:mg "NoChange"=some (.ref (a "NoChange"))
 Fh:GV mg "NoChange" (.ref (a "NoChange"))
 Ew:Exc K (a "NoChange")
 c7:mg "bool"=none
 Eh:mg "dict"=none
 NT:mg "int"=none
 KC:mg "isinstance"=none
 D2:mg "len"=none
 HR:mg "list"=none
 c8:mg "max"=none
 Ej:mg "min"=none
 ED:mg "range"=none
 SW:mg "set"=none
 SX:mg "sorted"=none
 SY:mg "tuple"=none
section
variable(P:Program)(w:World){K:W.Frag}{mg:Str->Option Value}(base:Heap){a:Ad}{f:Addr}{fd:FuncData}
seal wpAny
abbrev IZ:Stmt:=CL (top 4) 0
theorem zP:FnScope ["self"] ["self"] (AO IZ):=.go
theorem zQ(T:Txt K mg a)(F:Fun K "__init__" "Round.__init__" IZ f fd)  :
  FP P w K mg base 1 f fd ["self"] (GN K a) :=
 F.okF (PX K a) zP yA x9 λ_ _ _ _ _ E hr hx=>(AQ (EH (AB 0) AL rfl))
abbrev JA:Stmt:=CL (top 11) 0
theorem zR:FnScope ["self","place","value","needs"] ["self","place","value","needs"] (AO JA):=.go
theorem zS(T:Txt K mg a)(F:Fun K "__init__" "Change.__init__" JA f fd)  :
  FP P w K mg base 1 f fd ["self","place","value","needs"] (K2 K a) :=
 F.okF (PY K a) zR wW wV λ_ _ _ _ _ E hr hx=>(AN (EH (AB 0) (AB 1) rfl)
   (AN (EH (AB 0) (AB 2) rfl)
   (AQ (EH (AB 0) (AB 3) rfl))))
abbrev HI:Stmt:=CL (top 12) 4
theorem zT:FnScope ["self"] ["self"] (AO HI):=.go
theorem zU(T:Txt K mg a)(F:Fun K "waiting" "Book.waiting" HI f fd)  :
  FP P w K mg base 1 f fd ["self"] (C9 K a) :=
 F.okF (PZ K a) zT xE xD λ_ _ _ _ _ E hr hx=>(AQ (A3 (ML (tn:=["number"]) (cn:=["self"]) (cap:=[0]) (KR (outer:=AO HI) (N:=["self"]) rfl rfl (by decide +kernel)) rfl (D3 rfl T.ED (AD (CM DZ rfl T.D2 (by rfl) (AD (BM (AB 0) rfl) AG)) AG)) (λ_ _ _ _ _ _=>(HY (i:=0) (show(["number","self"]:List Str).Nodup from by decide +kernel) rfl (Or.inl rfl))) (λ_ _ _ _ _ _=>(VD (F9 (KK (DJ hr) (AB 0) (BM (AB 1) rfl)) (by with_unfolding_all rfl)))) (λ_ _ _ _ _ _=>(AB 0)))))
abbrev JB:Stmt:=CL (top 12) 8
theorem zV:FnScope ["self","number"] ["self","number"] (AO JB):=.go
theorem zW(T:Txt K mg a)(F:Fun K "block_of" "Book.block_of" JB f fd)  :
  FP P w K mg base 1 f fd ["self","number"] (K8 K a) :=
 F.okF (P0 K a) zV x4 xZ λ_ _ _ _ _ E hr hx=>(AQ (A3 (AU AV (BM (AU AV (BM (AB 0) rfl) (AB 1) (λ_ _=>rfl)) rfl) AL (λ_ _=>rfl))))
abbrev JC:Stmt:=CL (top 12) 10
theorem cT:FnScope ["self","numbers","number"] ["self","numbers"] (AO JC):=.go
theorem zX(T:Txt K mg a)(F:Fun K "ask_for_changes" "Book.ask_for_changes" JC f fd)  :
  FP P w K mg base 1 f fd ["self","numbers"] (HC K a) :=
 F.okF (P4 K a) cT xC xB λ_ _ _ _ _ E hr hx=>(AQ (CQ hx.po rfl (EJ (AB 1)) (CT 2 cT.nd) (AQ (BR (DH (MA MP IG AL (AB 2) (CM DZ rfl T.D2 (by rfl) (AD (BM (AB 0) rfl) AG)))) (AQ (MM hx T.Ew rfl T.Ev (AD LN AG))) BT))))
abbrev JD:Stmt:=top 13
theorem zY:FnScope ["needs","ahead"] ["needs","ahead"] (AO JD):=.go
theorem zZ(T:Txt K mg a)(F:Fun K "needs_with" "needs_with" JD f fd)  :
  FP P w K mg base 1 f fd ["needs","ahead"] (K3 K a) :=
 F.okF (NA K a) zY w5 wZ λ_ _ _ _ _ E hr hx=>(AN (BR (C0 TY (AB 1) LM (B7 _)) (AQ (A3 (D4 OQ rfl T.SY (by rfl) (AD (O2 rfl rfl T.SX rfl T.SW (AB 0)) AG)))) BT)
   (AQ (A3 (D4 OQ rfl T.SY (by rfl) (AD (O2 rfl rfl T.SX rfl T.SW (BL DY (D4 IH rfl T.HR (by rfl) (AD (AB 0) AG)) (CK (AD (AB 1) AG)))) AG)))))
abbrev JE:Stmt:=CL (top 15) 2
theorem cU:FnScope ["self","number","gone","need"] ["self","number","gone"] (AO JE):=.go
theorem z0(T:Txt K mg a)(F:Fun K "lack_of" "Hold.lack_of" JE f fd)  :
  FP P w K mg base 1 f fd ["self","number","gone"] (K5 K a) :=
 F.okF (QD K a) cU xI xH λ_ _ _ _ _ E hr hx=>(AN (CQ hx.po rfl (EJ (BM (AU AV (BM (AB 0) rfl) (AB 1) (λ_ _=>rfl)) rfl)) (CT 3 cU.nd) (AQ (BR (PW.pt (LR (F9 (KK (DJ hr) (AB 3) (BM (AB 0) rfl)) (by with_unfolding_all rfl)) (LP (F9 (KK (DJ hr) (AB 3) (AB 2)) (by with_unfolding_all rfl))))) (AQ (A3 (AB 3))) BT)))
   (AQ (A3 LM)))
abbrev JF:Stmt:=CL (top 15) 3
theorem SG:FnScope ["self","values","block","laid","number"] ["self","values","block"] (AO JF):=.go
theorem z3(T:Txt K mg a)(F:Fun K "laid_over" "Hold.laid_over" JF f fd)  :
  FP P w K mg base 1 f fd ["self","values","block"] (K6 K a) :=
 F.okF (QK K a) SG xN xM λ_ _ _ _ _ E hr hx=>(AN (BE 3 SG.nd (D4 IH rfl T.HR (by rfl) (AD (AB 1) AG)))
   (AN (CQ hx.po rfl (EJ (AU AV (BM (AB 0) rfl) (AB 2) (λ_ _=>rfl))) (CT 4 SG.nd) (AQ (BR (F9 (OF (DJ hr) (AB 4) (BM (AB 0) rfl)) (by with_unfolding_all rfl)) (AQ (TF (BM (AU AV (BM (AB 0) rfl) (AB 4) (λ_ _=>rfl)) rfl) (TD (AB 3) (AU AV (BM (AU AV (BM (AB 0) rfl) (AB 4) (λ_ _=>rfl)) rfl) AL (λ_ _=>rfl)) VN))) BT)))
   (AQ (A3 (AB 3)))))
abbrev HJ:Stmt:=CL (top 17) 0
theorem z4:FnScope ["self","blocks","cells"] ["self","blocks","cells"] (AO HJ):=.go
theorem z6(T:Txt K mg a)(F:Fun K "__init__" "Plank.__init__" HJ f fd)  :
  FP P w K mg base 1 f fd ["self","blocks","cells"] (FB K a) :=
 F.okF (QL K a) z4 wJ wC λ_ _ _ _ _ E hr hx=>(AN (EH (AB 0) (ML (tn:=["block"]) (cn:=["cells"]) (cap:=[2]) (KR (outer:=AO HJ) (N:=["self","blocks","cells"]) rfl rfl (by decide +kernel)) rfl (D3 rfl T.ED (AD (AB 1) AG)) (λ_ _ _ _ _ _=>(HY (i:=0) (show(["block","cells"]:List Str).Nodup from by decide +kernel) rfl (Or.inl rfl))) (λ_ _ _ _ _ _=>OL) (λ_ _ _ _ _ _=>(BL KQ (GD (AD LM AG)) (AB 1)))) rfl)
   (AN (EH (AB 0) (AB 2) rfl)
   (AQ (EH (AB 0) AL rfl))))
abbrev JG:Stmt:=CL (top 17) 1
theorem z7:FnScope ["self"] ["self"] (AO JG):=.go
theorem Ab(T:Txt K mg a)(F:Fun K "blocks" "Plank.blocks" JG f fd)  :
  FP P w K mg base 1 f fd ["self"] (FU K a) :=
 F.okF (QM K a) z7 wK wD λ_ _ _ _ _ E hr hx=>(AQ (A3 (CM DZ rfl T.D2 (by rfl) (AD (BM (AB 0) rfl) AG))))
abbrev JH:Stmt:=CL (top 17) 2
theorem Ac:FnScope ["self"] ["self"] (AO JH):=.go
theorem Ag(T:Txt K mg a)(F:Fun K "cells" "Plank.cells" JH f fd)  :
  FP P w K mg base 1 f fd ["self"] (KW K a) :=
 F.okF (QN K a) Ac wL wE λ_ _ _ _ _ E hr hx=>(AQ (A3 (BM (AB 0) rfl)))
abbrev JI:Stmt:=CL (top 17) 3
theorem Ah:FnScope ["self"] ["self"] (AO JI):=.go
theorem Aj(T:Txt K mg a)(F:Fun K "writings" "Plank.writings" JI f fd)  :
  FP P w K mg base 1 f fd ["self"] (IM K a) :=
 F.okF (QP K a) Ah wQ wP λ_ _ _ _ _ E hr hx=>(AQ (A3 (BM (AB 0) rfl)))
abbrev JJ:Stmt:=CL (top 17) 6
theorem Ak:FnScope ["self","block"] ["self","block"] (AO JJ):=.go
theorem Al(T:Txt K mg a)(F:Fun K "ask_for_block" "Plank.ask_for_block" JJ f fd)  :
  FP P w K mg base 1 f fd ["self","block"] (FV K a) :=
 F.okF (QQ K a) Ak wM wF λ_ _ _ _ _ E hr hx=>(AQ (BR (DH (MA MP IG AL (AB 1) (CM DZ rfl T.D2 (by rfl) (AD (BM (AB 0) rfl) AG)))) (AQ (MM hx T.S5 rfl T.S4 (AD LN AG))) BT))
abbrev JK:Stmt:=top 19
theorem Am:FnScope ["script","k"] ["script","k"] (AO JK):=.go
theorem Aq(T:Txt K mg a)(F:Fun K "_law_cell_at" "_law_cell_at" JK f fd)  :
  FP P w K mg base 1 f fd ["script","k"] (HA K a) :=
 F.okF (QR K a) Am wU wS λ_ _ _ _ _ E hr hx=>(AN (BR (C0 IG (AB 1) (CM DZ rfl T.D2 (by rfl) (AD (AB 0) AG)) (B7 _)) (AQ (A3 (AU AV (AB 0) (AB 1) (λ_ _=>rfl)))) BT)
   (AQ (A3 AL)))
abbrev JL:Stmt:=top 20
theorem cV:FnScope ["cell","prime","many","low"] ["cell","prime","many"] (AO JL):=.go
theorem Av(T:Txt K mg a)(F:Fun K "_law_pick" "_law_pick" JL f fd)  :
  FP P w K mg base 1 f fd ["cell","prime","many"] (CO K a) :=
 F.okF (QS K a) cV wT wR λ_ _ _ _ _ E hr hx=>(AN (BE 3 cV.nd (BL EF (BL DY (AB 0) (BL eX (AB 1) AL)) (AB 1)))
   (AQ (A3 (BL EF (BL EF (BL KQ (BL EF (BL KQ (AB 3) (AB 3)) (AB 1)) (AB 3)) (AB 1)) (AB 2)))))
abbrev HK:Stmt:=top 22
theorem JM:FnScope ["changes","waiting","block","left","number","many"] ["changes","waiting","block"] (AO HK):=.go
theorem Aw(T:Txt K mg a)(F:Fun K "_law_goes" "_law_goes" HK f fd)  :
  FP P w K mg base 1 f fd ["changes","waiting","block"] (LA K a) :=
 F.okF (QT K a) JM yP yO λ_ _ _ _ _ E hr hx=>(AN (TJ (i:=3) JM.nd rfl (Or.inr rfl) MJ)
   (AN (CQ hx.po rfl (EJ (AB 1)) (CT 4 JM.nd) (AQ (KL (DJ hr) (AB 3) (AB 4) CN rfl)))
   (AN (BE 5 JM.nd AL)
   (AN (CQ hx.po rfl (EJ (AB 1)) (CT 4 JM.nd) (AQ (BR (PW.pt (LR (C0 (ER hr.units) (AU AV (AU AV (AU AV (AB 0) (AB 4) (λ_ _=>rfl)) AL (λ_ _=>rfl)) AL (λ_ _=>rfl)) (AB 2) (B7 _)) (LP (C0 (ER hr.units) (ML (tn:=["other"]) (cn:=["left"]) (cap:=[3]) (KR (outer:=AO HK) (N:=["changes","waiting","block","left","number","many"]) rfl rfl (by decide +kernel)) rfl (EJ (AU AV (AU AV (AB 0) (AB 4) (λ_ _=>rfl)) AL (λ_ _=>rfl))) (λ_ _ _ _ _ _=>(HY (i:=0) (show(["other","left"]:List Str).Nodup from by decide +kernel) rfl (Or.inl rfl))) (λ_ _ _ _ _ _=>(VD (F9 (OF (DJ hr) (AB 0) (AB 1)) (by with_unfolding_all rfl)))) (λ_ _ _ _ _ _=>(AB 0))) (CK AG) (B7 _))))) (AN (C6 (iE (AB 3) (AB 4) ⟨rfl,rfl,rfl,rfl⟩))
   (AQ (BE 5 JM.nd (BL DY (AB 5) AL)))) BT)))
   (AQ (A3 (AB 5)))))))
abbrev JN:Stmt:=CL (top 2) 0
theorem Ay:FnScope ["self","hold"] ["self","hold"] (AO JN):=.go
theorem Az(T:Txt K mg a)(F:Fun K "chosen" "Broom.chosen" JN f fd)(EC:BF P w K mg base (a "Hold") 1 "waiting" ["self"] (C9 K a))(Dx:BF P w K mg base (a "Hold") 1 "block_of" ["self","number"] (K8 K a)) :
  FP P w K mg base 2 f fd ["self","hold"] (GO K a) :=
 F.okF (QU K a) Ay yC yB λ_ _ _ _ _ E hr hx=>(AQ (A3 (BX (AB 1) T.BY Dx hr.m hx.passes (AD (AU AV (DB (AB 1) T.BY EC hr.m hx.passes) AL (λ_ _=>rfl)) AG))))
abbrev HL:Stmt:=CL (top 12) 0
theorem Bb:FnScope ["self","plank"] ["self","plank"] (AO HL):=.go
theorem Bc(T:Txt K mg a)(F:Fun K "__init__" "Book.__init__" HL f fd)(LI:BF P w K mg base (a "Plank") 1 "blocks" ["self"] (FU K a)) :
  FP P w K mg base 2 f fd ["self","plank"] (FD K a) :=
 F.okF (QV K a) Bb wY wX λ_ _ _ _ _ E hr hx=>(AN (EH (AB 0) (AB 1) rfl)
   (AN (EH (AB 0) (CK AG) rfl)
   (AN (EH (AB 0) (ML (tn:=["block"]) (cn:=[]) (cap:=[]) (KR (outer:=AO HL) (N:=["self","plank"]) rfl rfl (by decide +kernel)) rfl (D3 rfl T.ED (AD (DB (AB 1) T.EE LI hr.m hx.passes) AG)) (λ_ _ _ _ _ _=>(HY (i:=0) (show(["block"]:List Str).Nodup from by decide +kernel) rfl (Or.inl rfl))) (λ_ _ _ _ _ _=>OL) (λ_ _ _ _ _ _=>(CK AG))) rfl)
   (AN (EH (AB 0) U6 rfl)
   (AQ (EH (AB 0) MJ rfl))))))
abbrev JO:Stmt:=CL (top 12) 5
theorem Bd:FnScope ["self","number"] ["self","number"] (AO JO):=.go
theorem Bg(T:Txt K mg a)(F:Fun K "needed" "Book.needed" JO f fd)(SQ:BF P w K mg base (a "Hold") 1 "ask_for_changes" ["self","numbers"] (HC K a)) :
  FP P w K mg base 2 f fd ["self","number"] (K7 K a) :=
 F.okF (QW K a) Bd xR xQ λ_ _ _ _ _ E hr hx=>(AN (C6 (BX (AB 0) T.BY SQ hr.m hx.passes (AD (CK (AD (AB 1) AG)) AG)))
   (AQ (A3 (D4 IH rfl T.HR (by rfl) (AD (BM (AU AV (BM (AB 0) rfl) (AB 1) (λ_ _=>rfl)) rfl) AG)))))
abbrev JP:Stmt:=CL (top 12) 7
theorem Bh:FnScope ["self"] ["self"] (AO JP):=.go
theorem Bj(T:Txt K mg a)(F:Fun K "blocks" "Book.blocks" JP f fd)(LI:BF P w K mg base (a "Plank") 1 "blocks" ["self"] (FU K a)) :
  FP P w K mg base 2 f fd ["self"] (HE K a) :=
 F.okF (QX K a) Bh x8 x6 λ_ _ _ _ _ E hr hx=>(AQ (A3 (DB (BM (AB 0) rfl) T.EE LI hr.m hx.passes)))
abbrev JQ:Stmt:=CL (top 12) 9
theorem Bk:FnScope ["self","place"] ["self","place"] (AO JQ):=.go
theorem Bl(T:Txt K mg a)(F:Fun K "ask_for_place" "Book.ask_for_place" JQ f fd)(Ec:BF P w K mg base (a "Plank") 1 "cells" ["self"] (KW K a))(LI:BF P w K mg base (a "Plank") 1 "blocks" ["self"] (FU K a)) :
  FP P w K mg base 2 f fd ["self","place"] (K4 K a) :=
 F.okF (QY K a) Bk w8 w6 λ_ _ _ _ _ E hr hx=>(AQ (BR (PW.pt (HX (DH (MA MP IG AL (AU AV (AB 1) AL (λ_ _=>rfl)) (DB (BM (AB 0) rfl) T.EE LI hr.m hx.passes))) (LQ (DH (MA MP IG AL (AU AV (AB 1) AL (λ_ _=>rfl)) (DB (BM (AB 0) rfl) T.EE Ec hr.m hx.passes)))))) (AQ (MM hx T.S5 rfl T.S4 (AD LN AG))) BT))
abbrev JR:Stmt:=CL (top 15) 1
theorem JS:FnScope ["self","block","taken","gone","out","held","number","lack"] ["self","block","taken"] (AO JR):=.go
theorem Bm(T:Txt K mg a)(F:Fun K "outcome" "Hold.outcome" JR f fd)(Dy:BF P w K mg base (a "Hold") 1 "lack_of" ["self","number","gone"] (K5 K a)) :
  FP P w K mg base 2 f fd ["self","block","taken"] (HD K a) :=
 F.okF (RA K a) JS xL xK λ_ _ _ _ _ E hr hx=>(AN (BE 3 JS.nd (D4 o1 rfl T.Eh (by rfl) (AD (AB 2) AG)))
   (AN (BE 4 JS.nd (CK AG))
   (AN (BE 5 JS.nd (CK AG))
   (AN (CQ hx.po rfl (EJ (AU AV (BM (AB 0) rfl) (AB 1) (λ_ _=>rfl))) (CT 6 JS.nd) (AQ (BR (PW.pt (LR (F9 (KK (DJ hr) (AB 6) (BM (AB 0) rfl)) (by with_unfolding_all rfl)) (LP (F9 (KK (DJ hr) (AB 6) (AB 3)) (by with_unfolding_all rfl))))) (AN (BE 7 JS.nd (BX (AB 0) T.BY Dy hr.m hx.passes (AD (AB 6) (AD (AB 3) AG))))
   (AQ (BR (C0 TY (AB 7) LM (B7 _)) (AN (KL (DJ hr) (AB 3) (AB 6) CN rfl)
   (AQ (C6 (FM PySem.F.plainAttrs_list PySem.F.slot_list_append PySem.F.type_list_append GF (AB 4) (AD (AB 6) AG))))) (AQ (C6 (FM PySem.F.plainAttrs_list PySem.F.slot_list_append PySem.F.type_list_append GF (AB 5) (AD (GD (AD (AB 6) (AD (AB 7) AG))) AG))))))) BT)))
   (AQ (A3 (GD (AD (AB 4) (AD (AB 5) AG)))))))))
abbrev JT:Stmt:=CL (top 17) 4
theorem Bp:FnScope ["self","block"] ["self","block"] (AO JT):=.go
theorem Bq(T:Txt K mg a)(F:Fun K "read" "Plank.read" JT f fd)(SU:BF P w K mg base (a "Plank") 1 "ask_for_block" ["self","block"] (FV K a)) :
  FP P w K mg base 2 f fd ["self","block"] (GL K a) :=
 F.okF (RB K a) Bp wN wG λ_ _ _ _ _ E hr hx=>(AN (C6 (BX (AB 0) T.EE SU hr.m hx.passes (AD (AB 1) AG)))
   (AQ (A3 (D4 IH rfl T.HR (by rfl) (AD (AU AV (BM (AB 0) rfl) (AB 1) (λ_ _=>rfl)) AG)))))
abbrev JU:Stmt:=CL (top 17) 5
theorem Bv:FnScope ["self","block","values"] ["self","block","values"] (AO JU):=.go
theorem Bw(T:Txt K mg a)(F:Fun K "write" "Plank.write" JU f fd)(SU:BF P w K mg base (a "Plank") 1 "ask_for_block" ["self","block"] (FV K a)) :
  FP P w K mg base 2 f fd ["self","block","values"] (KY K a) :=
 F.okF (RC K a) Bv wO wH λ_ _ _ _ _ E hr hx=>(AN (C6 (BX (AB 0) T.EE SU hr.m hx.passes (AD (AB 1) AG)))
   (AN (BR (C0 (EI hr.units) (CM DZ rfl T.D2 (by rfl) (AD (AB 2) AG)) (BM (AB 0) rfl) (B7 _)) (AQ (MM hx T.S5 rfl T.S4 (AD LN AG))) BT)
   (AN (TF (D4 OQ rfl T.SY (by rfl) (AD (AB 2) AG)) (TD (BM (AB 0) rfl) (AB 1) VN))
   (AQ (UA (AB 0) AL UB)))))
abbrev HM:Stmt:=top 23
theorem cW:FnScope ["changes","waiting","blocks","goes"] ["changes","waiting","blocks"] (AO HM):=.go
theorem By(T:Txt K mg a)(F:Fun K "_law_fullest" "_law_fullest" HM f fd)(Dm:C1 P w K mg base (1) "_law_goes" ["changes","waiting","block"] (LA K a)) :
  FP P w K mg base 2 f fd ["changes","waiting","blocks"] (LB K a) :=
 F.okF (RD K a) cW yR yQ λ_ _ _ _ _ E hr hx=>(AN (iP (i:=3) (tn:=["block"]) (cn:=["changes","waiting"]) (cap:=[0,1]) (KR (outer:=AO HM) (N:=["changes","waiting","blocks","goes"]) rfl rfl (by decide +kernel)) rfl cW.nd rfl rfl (D3 rfl T.ED (AD (AB 2) AG)) (λ_ _ _ _ _ _=>(HY (i:=0) (show(["block","changes","waiting"]:List Str).Nodup from by decide +kernel) rfl (Or.inl rfl))) (λ_ _ _ _ _ _=>OL) (λ_ _ _ _ _ _=>(BU Dm hr.m iS rfl (AD (AB 1) (AD (AB 2) (AD (AB 0) AG))))))
   (AQ (A3 (FM PySem.F.plainAttrs_list PySem.F.slot_list_index PySem.F.type_list_index p0 (AB 3) (AD (CM (pT rfl) rfl T.c8 (by rfl) (AD (AB 3) AG)) AG)))))
abbrev JV:Stmt:=CL (top 3) 0
theorem HN:FnScope ["self","hold","best","most","block","many"] ["self","hold"] (AO JV):=.go
theorem Bz(T:Txt K mg a)(F:Fun K "chosen" "Fullest.chosen" JV f fd)(SR:BF P w K mg base (a "Hold") 2 "blocks" ["self"] (HE K a))(ST:BF P w K mg base (a "Hold") 2 "outcome" ["self","block","taken"] (HD K a)) :
  FP P w K mg base 3 f fd ["self","hold"] (GP K a) :=
 F.okF (RM K a) HN yE yD λ_ _ _ _ _ E hr hx=>(AN (BE 2 HN.nd AL)
   (AN (BE 3 HN.nd AL)
   (AN (CQ hx.po rfl (D3 rfl T.ED (AD (DB (AB 1) T.BY SR hr.m hx.passes) AG)) (CT 4 HN.nd) (AN (BE 5 HN.nd (CM DZ rfl T.D2 (by rfl) (AD (AU AV (BX (AB 1) T.BY ST hr.m hx.passes (AD (AB 4) (AD MJ AG))) AL (λ_ _=>rfl)) AG)))
   (AQ (BR (C0 jD (AB 5) (AB 3) (B7 _)) (AN (BE 2 HN.nd (AB 4))
   (AQ (BE 3 HN.nd (AB 5)))) BT))))
   (AQ (A3 (AB 2))))))
abbrev JW:Stmt:=CL (top 4) 1
theorem cX:FnScope ["self","hold","block"] ["self","hold"] (AO JW):=.go
theorem Cb(T:Txt K mg a)(F:Fun K "chosen" "Round.chosen" JW f fd)(SR:BF P w K mg base (a "Hold") 2 "blocks" ["self"] (HE K a)) :
  FP P w K mg base 3 f fd ["self","hold"] (GQ K a) :=
 F.okF (RN K a) cX yG yF λ_ _ _ _ _ E hr hx=>(AN (BE 2 cX.nd (BL EF (BM (AB 0) rfl) (DB (AB 1) T.BY SR hr.m hx.passes)))
   (AN (UA (AB 0) AL UB)
   (AQ (A3 (AB 2)))))
abbrev JX:Stmt:=CL (top 12) 3
theorem Cc:FnScope ["self","place"] ["self","place"] (AO JX):=.go
theorem Cd(T:Txt K mg a)(F:Fun K "newest" "Book.newest" JX f fd)(Dw:BF P w K mg base (a "Hold") 2 "ask_for_place" ["self","place"] (K4 K a)) :
  FP P w K mg base 3 f fd ["self","place"] (HB K a) :=
 F.okF (RO K a) Cc xA w9 λ_ _ _ _ _ E hr hx=>(AN (C6 (BX (AB 0) T.BY Dw hr.m hx.passes (AD (AB 1) AG)))
   (AQ (A3 (iD (DJ hr) (BM (AB 0) rfl) (AB 1) ⟨rfl,rfl,rfl,rfl⟩))))
abbrev JY:Stmt:=CL (top 15) 0
theorem NP:FnScope ["self","block","values","told","number"] ["self","block"] (AO JY):=.go
theorem Cg(T:Txt K mg a)(F:Fun K "write" "Hold.write" JY f fd)(NR:BF P w K mg base (a "Plank") 2 "read" ["self","block"] (GL K a))(ST:BF P w K mg base (a "Hold") 2 "outcome" ["self","block","taken"] (HD K a))(Dz:BF P w K mg base (a "Hold") 1 "laid_over" ["self","values","block"] (K6 K a))(Ed:BF P w K mg base (a "Plank") 2 "write" ["self","block","values"] (KY K a)) :
  FP P w K mg base 3 f fd ["self","block"] (FE K a) :=
 F.okF (RP K a) NP xP xO λ_ _ _ _ _ E hr hx=>(AN (BE 2 NP.nd (BX (BM (AB 0) rfl) T.EE NR hr.m hx.passes (AD (AB 1) AG)))
   (AN (BE 3 NP.nd (BX (AB 0) T.BY ST hr.m hx.passes (AD (AB 1) (AD MJ AG))))
   (AN (CQ hx.po rfl (EJ (AU AV (AB 3) AL (λ_ _=>rfl))) (CT 4 NP.nd) (AQ (KL (DJ hr) (BM (AB 0) rfl) (AB 4) CN rfl)))
   (AN (C6 (BX (BM (AB 0) rfl) T.EE Ed hr.m hx.passes (AD (AB 1) (AD (BX (AB 0) T.BY Dz hr.m hx.passes (AD (AB 2) (AD (AB 1) AG))) AG))))
   (AQ (A3 (AB 3)))))))
abbrev JZ:Stmt:=top 24
theorem Cj:FnScope ["kind","changes","waiting","blocks","turns"] ["kind","changes","waiting","blocks","turns"] (AO JZ):=.go
theorem Ck(T:Txt K mg a)(F:Fun K "_law_due" "_law_due" JZ f fd)(Dl:C1 P w K mg base (2) "_law_fullest" ["changes","waiting","blocks"] (LB K a)) :
  FP P w K mg base 3 f fd ["kind","changes","waiting","blocks","turns"] (HF K a) :=
 F.okF (RQ K a) Cj yT yS λ_ _ _ _ _ E hr hx=>(AN (BR (C0 (ER hr.units) (AB 0) AL (B7 _)) (AQ (A3 (AU AV (AU AV (AU AV (AB 1) (AU AV (AB 2) AL (λ_ _=>rfl)) (λ_ _=>rfl)) AL (λ_ _=>rfl)) AL (λ_ _=>rfl)))) BT)
   (AN (BR (C0 (ER hr.units) (AB 0) AL (B7 _)) (AQ (A3 (BU Dl hr.m hx.passes rfl (AD (AB 1) (AD (AB 2) (AD (AB 3) AG)))))) BT)
   (AQ (A3 (BL EF (AB 4) (AB 3))))))
abbrev J0:Stmt:=top 5
theorem SH:FnScope ["hold","broom","row","block"] ["hold","broom"] (AO J0):=.go
theorem Cl(T:Txt K mg a)(F:Fun K "sweep" "sweep" J0 f fd)(EC:BF P w K mg base (a "Hold") 1 "waiting" ["self"] (C9 K a))(SN:BF P w K mg base (a "Broom") 2 "chosen" ["self","hold"] (GO K a))(SO:BF P w K mg base (a "Fullest") 3 "chosen" ["self","hold"] (GP K a))(SV:BF P w K mg base (a "Round") 3 "chosen" ["self","hold"] (GQ K a))(KB:BF P w K mg base (a "Hold") 3 "write" ["self","block"] (FE K a)) :
  FP P w K mg base 4 f fd ["hold","broom"] (IN K a) :=
 F.okF (RR K a) SH yJ yI λ_ _ _ _ _ E hr hx=>(AN (BE 2 SH.nd (CK AG))
   (AN (eE hx.po (DT (DB (AB 0) T.BY EC hr.m hx.passes) (λ_=>rfl)) (AN (BE 3 SH.nd (M3 (BX (AB 1) T.SZ SN hr.m hx.passes (AD (AB 0) AG)) (M3 (BX (AB 1) T.S0 SO hr.m hx.passes (AD (AB 0) AG)) (BX (AB 1) T.NU SV hr.m hx.passes (AD (AB 0) AG)))))
   (AN (C6 (BX (AB 0) T.BY KB hr.m hx.passes (AD (AB 3) AG)))
   (AQ (C6 (FM PySem.F.plainAttrs_list PySem.F.slot_list_append PySem.F.type_list_append GF (AB 2) (AD (AB 3) AG)))))))
   (AQ (A3 (AB 2)))))
abbrev J1:Stmt:=CL (top 12) 1
theorem SI:FnScope ["self","place","value","needs","ahead","number"] ["self","place","value","needs"] (AO J1):=.go
theorem Cm(T:Txt K mg a)(F:Fun K "change" "Book.change" J1 f fd)(SS:BF P w K mg base (a "Hold") 3 "newest" ["self","place"] (HB K a))(SQ:BF P w K mg base (a "Hold") 1 "ask_for_changes" ["self","numbers"] (HC K a))(Dv:C1 P w K mg base (1) "needs_with" ["needs","ahead"] (K3 K a))(Eg:FN P w K mg base (a "Change") 1 "Change" ["self","place","value","needs"] (K2 K a)) :
  FP P w K mg base 4 f fd ["self","place","value","needs"] (EW K a) :=
 F.okF (RS K a) SI xG xF λ_ _ _ _ _ E hr hx=>(AN (BE 4 SI.nd (BX (AB 0) T.BY SS hr.m hx.passes (AD (AB 1) AG)))
   (AN (C6 (BX (AB 0) T.BY SQ hr.m hx.passes (AD (AB 3) AG)))
   (AN (BE 5 SI.nd (CM DZ rfl T.D2 (by rfl) (AD (BM (AB 0) rfl) AG)))
   (AN (C6 (FM PySem.F.plainAttrs_list PySem.F.slot_list_append PySem.F.type_list_append GF (BM (AB 0) rfl) (AD (FO Eg hr.m hx.passes rfl (AD (AB 1) (AD (AB 2) (AD (BU Dv hr.m hx.passes rfl (AD (AB 3) (AD (AB 4) AG))) AG)))) AG)))
   (AN (C6 (FM PySem.F.plainAttrs_list PySem.F.slot_list_append PySem.F.type_list_append GF (AU AV (BM (AB 0) rfl) (AU AV (AB 1) AL (λ_ _=>rfl)) (λ_ _=>rfl)) (AD (AB 5) AG)))
   (AN (KL (DJ hr) (BM (AB 0) rfl) (AB 1) (AB 5) rfl)
   (AQ (A3 (AB 5)))))))))
abbrev J2:Stmt:=top 25
theorem cY:FnScope ["broom","hold","due","found"] ["broom","hold","due"] (AO J2):=.go
theorem Cp(T:Txt K mg a)(F:Fun K "_law_chosen" "_law_chosen" J2 f fd)(SN:BF P w K mg base (a "Broom") 2 "chosen" ["self","hold"] (GO K a))(SO:BF P w K mg base (a "Fullest") 3 "chosen" ["self","hold"] (GP K a))(SV:BF P w K mg base (a "Round") 3 "chosen" ["self","hold"] (GQ K a)) :
  FP P w K mg base 4 f fd ["broom","hold","due"] (EN K a) :=
 F.okF (RT K a) cY yV yU λ_ _ _ _ _ E hr hx=>(AN (BE 3 cY.nd (M3 (BX (AB 0) T.SZ SN hr.m hx.passes (AD (AB 1) AG)) (M3 (BX (AB 0) T.S0 SO hr.m hx.passes (AD (AB 1) AG)) (BX (AB 0) T.NU SV hr.m hx.passes (AD (AB 1) AG)))))
   (AQ (A3 (TC (CM IJ rfl T.KC (by rfl) (AD (AB 3) (AD (KE rfl T.NT (by rfl) rfl) AG))) (TC (jH (CM IJ rfl T.KC (by rfl) (AD (AB 3) (AD (KE rfl T.c7 (by rfl) rfl) AG)))) (S9 (GC (ER hr.units) (AB 3) (AB 2) (B7 _))))))))
abbrev J3:Stmt:=top 27
theorem NQ:FnScope ["told","kind","hold","changes","size","turns","block","waiting"] ["told","kind","hold","changes","size","turns"] (AO J3):=.go
theorem Cq(T:Txt K mg a)(F:Fun K "_law_replayed" "_law_replayed" J3 f fd)(EC:BF P w K mg base (a "Hold") 1 "waiting" ["self"] (C9 K a))(SM:C1 P w K mg base (3) "_law_due" ["kind","changes","waiting","blocks","turns"] (HF K a))(KB:BF P w K mg base (a "Hold") 3 "write" ["self","block"] (FE K a)) :
  FP P w K mg base 4 f fd ["told","kind","hold","changes","size","turns"] (LD K a) :=
 F.okF (RU K a) NQ yX yW λ_ _ _ _ _ E hr hx=>(AN (CQ hx.po rfl (EJ (AB 0)) (CT 6 NQ.nd) (AN (BE 7 NQ.nd (DB (AB 2) T.BY EC hr.m hx.passes))
   (AN (BR (PW.pt (HX (C0 (ER hr.units) (AB 7) (CK AG) (B7 _)) (HX (DH (DT (CM IJ rfl T.KC (by rfl) (AD (AB 6) (AD (KE rfl T.NT (by rfl) rfl) AG))) (λ_=>rfl))) (LQ (DT (CM IJ rfl T.KC (by rfl) (AD (AB 6) (AD (KE rfl T.c7 (by rfl) rfl) AG))) (λ_=>rfl)))))) (AQ (A3 CN)) BT)
   (AN (BR (C0 (EI hr.units) (AB 6) (BU SM hr.m hx.passes rfl (AD (AB 1) (AD (AB 3) (AD (AB 7) (AD (AU AV (AB 4) AL (λ_ _=>rfl)) (AD (AB 5) AG)))))) (B7 _)) (AQ (A3 CN)) BT)
   (AN (BE 5 NQ.nd (BL DY (AB 5) AL))
   (AQ (C6 (BX (AB 2) T.BY KB hr.m hx.passes (AD (AB 6) AG)))))))))
   (AQ (A3 (GC (ER hr.units) (DB (AB 2) T.BY EC hr.m hx.passes) (CK AG) (B7 _)))))
abbrev J4:Stmt:=top 21
theorem J5:FnScope ["holds","cell","size","changes","last","block","place","needs","k","value"] ["holds","cell","size","changes","last"] (AO J4):=.go
theorem Cv(T:Txt K mg a)(F:Fun K "_law_done" "_law_done" J4 f fd)(DM:C1 P w K mg base (1) "_law_pick" ["cell","prime","many"] (CO K a))(KB:BF P w K mg base (a "Hold") 3 "write" ["self","block"] (FE K a))(KA:BF P w K mg base (a "Hold") 4 "change" ["self","place","value","needs"] (EW K a)) :
  FP P w K mg base 5 f fd ["holds","cell","size","changes","last"] (K9 K a) :=
 F.okF (RZ K a) J5 zI zH λ_ _ _ _ _ E hr hx=>(AN (BR (C0 (ER hr.units) (BU DM hr.m hx.passes rfl (AD (AB 1) (AD AL (AD AL AG)))) AL (B7 _)) (AN (BE 5 J5.nd (BU DM hr.m hx.passes rfl (AD (AB 1) (AD AL (AD (AU AV (AB 2) AL (λ_ _=>rfl)) AG)))))
   (AQ (A3 (GC (ER hr.units) (BX (AU AV (AB 0) AL (λ_ _=>rfl)) T.BY KB hr.m hx.passes (AD (AB 5) AG)) (BX (AU AV (AB 0) AL (λ_ _=>rfl)) T.BY KB hr.m hx.passes (AD (AB 5) AG)) (B7 _))))) BT)
   (AN (BE 6 J5.nd (GD (AD (BU DM hr.m hx.passes rfl (AD (AB 1) (AD AL (AD (AU AV (AB 2) AL (λ_ _=>rfl)) AG)))) (AD (BU DM hr.m hx.passes rfl (AD (AB 1) (AD AL (AD (AU AV (AB 2) AL (λ_ _=>rfl)) AG)))) AG))))
   (AN (BE 7 J5.nd (CK AG))
   (AN (CQ hx.po rfl (D3 rfl T.ED (AD (BL KQ (BU DM hr.m hx.passes rfl (AD (AB 1) (AD AL (AD AL AG)))) (D4 T4 rfl T.NT (by rfl) (AD (GC (EI hr.units) (AB 3) (CK AG) (B7 _)) AG))) AG)) (CT 8 J5.nd) (AQ (C6 (FM PySem.F.plainAttrs_list PySem.F.slot_list_append PySem.F.type_list_append GF (AB 7) (AD (CM (m4 rfl) rfl T.c8 (by rfl) (AD AL (AD (BL LZ (BL LZ (CM DZ rfl T.D2 (by rfl) (AD (AB 3) AG)) AL) (BU DM hr.m hx.passes rfl (AD (BL DY (AB 1) (AB 8)) (AD AL (AD AL AG))))) AG))) AG)))))
   (AN (BE 9 J5.nd (BL EF (AB 1) (BL eY AL AL)))
   (AN (BR (C0 (EI hr.units) (BX (AU AV (AB 0) AL (λ_ _=>rfl)) T.BY KA hr.m hx.passes (AD (AB 6) (AD (AB 9) (AD (D4 IH rfl T.HR (by rfl) (AD (AB 7) AG)) AG)))) (BX (AU AV (AB 0) AL (λ_ _=>rfl)) T.BY KA hr.m hx.passes (AD (AB 6) (AD (AB 9) (AD (D4 IH rfl T.HR (by rfl) (AD (AB 7) AG)) AG)))) (B7 _)) (AQ (A3 CN)) BT)
   (AN (BR (F9 (OF (DJ hr) (AB 6) (AB 4)) (by with_unfolding_all rfl)) (AQ (C6 (FM PySem.F.plainAttrs_list PySem.F.slot_list_append PySem.F.type_list_append GF (AB 7) (AD (U5 (DJ hr) (AB 4) (AB 6) (λ_ _=>rfl)) AG)))) BT)
   (AN (KL (DJ hr) (AB 4) (AB 6) (CM DZ rfl T.D2 (by rfl) (AD (AB 3) AG)) rfl)
   (AN (C6 (FM PySem.F.plainAttrs_list PySem.F.slot_list_append PySem.F.type_list_append GF (AB 3) (AD (GD (AD (AB 6) (AD (AB 7) AG))) AG)))
   (AQ (A3 CN)))))))))))
abbrev J6:Stmt:=top 26
theorem J7:FnScope ["brooms","hold","changes","size","turns","waiting","kind","k"] ["brooms","hold","changes","size","turns"] (AO J6):=.go
theorem Cw(T:Txt K mg a)(F:Fun K "_law_asked" "_law_asked" J6 f fd)(EC:BF P w K mg base (a "Hold") 1 "waiting" ["self"] (C9 K a))(SM:C1 P w K mg base (3) "_law_due" ["kind","changes","waiting","blocks","turns"] (HF K a))(HQ:C1 P w K mg base (4) "_law_chosen" ["broom","hold","due"] (EN K a)) :
  FP P w K mg base 5 f fd ["brooms","hold","changes","size","turns"] (LC K a) :=
 F.okF (R0 K a) J7 zC zB λ_ _ _ _ _ E hr hx=>(AN (BE 5 J7.nd (DB (AB 1) T.BY EC hr.m hx.passes))
   (AN (CQ hx.po rfl (D3 rfl T.ED (AD AL AG)) (CT 6 J7.nd) (AQ (CQ hx.po rfl (D3 rfl T.ED (AD AL AG)) (CT 7 J7.nd) (AQ (BR (DH (DT (BU HQ hr.m hx.passes rfl (AD (AU AV (AB 0) (AB 6) (λ_ _=>rfl)) (AD (AB 1) (AD (BU SM hr.m hx.passes rfl (AD (AB 6) (AD (AB 2) (AD (AB 5) (AD (AU AV (AB 3) AL (λ_ _=>rfl)) (AD AL AG)))))) AG)))) (λ_=>rfl))) (AQ (A3 CN)) BT)))))
   (AN (CQ hx.po rfl (D3 rfl T.ED (AD (AU AV (AB 4) AL (λ_ _=>rfl)) AG)) (CT 7 J7.nd) (AQ (BR (DH (DT (BU HQ hr.m hx.passes rfl (AD (AU AV (AB 0) AL (λ_ _=>rfl)) (AD (AB 1) (AD (BL EF (AB 7) (AU AV (AB 3) AL (λ_ _=>rfl))) AG)))) (λ_=>rfl))) (AQ (A3 CN)) BT)))
   (AN (CQ hx.po rfl (D3 rfl T.ED (AD (AU AV (AB 4) AL (λ_ _=>rfl)) AG)) (CT 7 J7.nd) (AQ (BR (DH (DT (BU HQ hr.m hx.passes rfl (AD (AU AV (AB 0) AL (λ_ _=>rfl)) (AD (AB 1) (AD (BL EF (AB 7) (AU AV (AB 3) AL (λ_ _=>rfl))) AG)))) (λ_=>rfl))) (AQ (A3 CN)) BT)))
   (AQ (A3 (GC (ER hr.units) (DB (AB 1) T.BY EC hr.m hx.passes) (AB 5) (B7 _))))))))
abbrev J8:Stmt:=top 28
theorem HP:FnScope ["cell","sizes","holds","hold","broom","k","which"] ["cell"] (AO J8):=.go
theorem Cy(T:Txt K mg a)(F:Fun K "_law_rounds_apart" "_law_rounds_apart" J8 f fd)(DM:C1 P w K mg base (1) "_law_pick" ["cell","prime","many"] (CO K a))(LK:FN P w K mg base (a "Plank") 1 "Plank" ["self","blocks","cells"] (FB K a))(LJ:FN P w K mg base (a "Hold") 2 "Hold" ["self","plank"] (FD K a))(KA:BF P w K mg base (a "Hold") 4 "change" ["self","place","value","needs"] (EW K a))(NS:FN P w K mg base (a "Round") 1 "Round" ["self"] (GN K a))(HQ:C1 P w K mg base (4) "_law_chosen" ["broom","hold","due"] (EN K a)) :
  FP P w K mg base 5 f fd ["cell"] (LE K a) :=
 F.okF (R1 K a) HP zE zD λ_ _ _ _ _ E hr hx=>(AN (BE 1 HP.nd (CK (AD (BL DY AL (BU DM hr.m hx.passes rfl (AD (AB 0) (AD AL (AD AL AG))))) (AD (BL DY AL (BU DM hr.m hx.passes rfl (AD (AB 0) (AD AL (AD AL AG))))) AG))))
   (AN (BE 2 HP.nd (CK (AD (FO LJ hr.m hx.passes rfl (AD (FO LK hr.m hx.passes rfl (AD (AU AV (AB 1) AL (λ_ _=>rfl)) (AD AL AG))) AG)) (AD (FO LJ hr.m hx.passes rfl (AD (FO LK hr.m hx.passes rfl (AD (AU AV (AB 1) AL (λ_ _=>rfl)) (AD AL AG))) AG)) AG))))
   (AN (CQ hx.po rfl (EJ (AB 2)) (CT 3 HP.nd) (AQ (C6 (BX (AB 3) T.BY KA hr.m hx.passes (AD (GD (AD AL (AD AL AG))) (AD AL (AD (CK AG) AG)))))))
   (AN (BE 4 HP.nd (OM NS hr.m hx.passes rfl))
   (AN (CQ hx.po rfl (D3 rfl T.ED (AD AL AG)) (CT 5 HP.nd) (AN (BE 6 HP.nd (BU DM hr.m hx.passes rfl (AD (BL DY (AB 0) (AB 5)) (AD AL (AD AL AG)))))
   (AQ (BR (DH (DT (BU HQ hr.m hx.passes rfl (AD (AB 4) (AD (AU AV (AB 2) (AB 6) (λ_ _=>rfl)) (AD (BL EF (AB 5) (AU AV (AB 1) (AB 6) (λ_ _=>rfl))) AG)))) (λ_=>rfl))) (AQ (A3 CN)) BT))))
   (AQ (A3 CN)))))))
abbrev J9:Stmt:=top 29
theorem SJ:FnScope ["hold","changes","last","number","place"] ["hold","changes","last"] (AO J9):=.go
theorem Cz(T:Txt K mg a)(F:Fun K "_law_behind" "_law_behind" J9 f fd)(Eb:BF P w K mg base (a "Hold") 2 "needed" ["self","number"] (K7 K a))(SS:BF P w K mg base (a "Hold") 3 "newest" ["self","place"] (HB K a))(KA:BF P w K mg base (a "Hold") 4 "change" ["self","place","value","needs"] (EW K a)) :
  FP P w K mg base 5 f fd ["hold","changes","last"] (LG K a) :=
 F.okF (R3 K a) SJ zA y0 λ_ _ _ _ _ E hr hx=>(AN (CQ hx.po rfl (D3 rfl T.ED (AD (CM DZ rfl T.D2 (by rfl) (AD (AB 1) AG)) AG)) (CT 3 SJ.nd) (AQ (BR (C0 (EI hr.units) (BX (AB 0) T.BY Eb hr.m hx.passes (AD (AB 3) AG)) (O2 rfl rfl T.SX rfl T.SW (AU AV (AU AV (AB 1) (AB 3) (λ_ _=>rfl)) AL (λ_ _=>rfl))) (B7 _)) (AQ (A3 CN)) BT)))
   (AN (CQ hx.po rfl (pQ (AB 2)) (CT 4 SJ.nd) (AQ (BR (C0 (EI hr.units) (BX (AB 0) T.BY SS hr.m hx.passes (AD (AB 4) AG)) (U5 (DJ hr) (AB 2) (AB 4) (λ_ _=>rfl)) (B7 _)) (AQ (A3 CN)) BT)))
   (AQ (A3 (GC (ER hr.units) (BX (AB 0) T.BY KA hr.m hx.passes (AD (GD (AD AL (AD AL AG))) (AD AL (AD (CK AG) AG)))) (CM DZ rfl T.D2 (by rfl) (AD (AB 1) AG)) (B7 _))))))
abbrev F1:Stmt:=top 30
theorem DL:FnScope ["script","first","size","planks","holds","changes","last","cell","brooms","broom","turns","kind","begun","ahead","told","block"] ["script"] (AO F1):=.go
theorem Db(T:Txt K mg a)(F:Fun K "law" "law" F1 f fd)(Dj:C1 P w K mg base (1) "_law_cell_at" ["script","k"] (HA K a))(DM:C1 P w K mg base (1) "_law_pick" ["cell","prime","many"] (CO K a))(LK:FN P w K mg base (a "Plank") 1 "Plank" ["self","blocks","cells"] (FB K a))(LJ:FN P w K mg base (a "Hold") 2 "Hold" ["self","plank"] (FD K a))(Dk:C1 P w K mg base (5) "_law_done" ["holds","cell","size","changes","last"] (K9 K a))(NS:FN P w K mg base (a "Round") 1 "Round" ["self"] (GN K a))(Dg:C1 P w K mg base (5) "_law_asked" ["brooms","hold","changes","size","turns"] (LC K a))(EC:BF P w K mg base (a "Hold") 1 "waiting" ["self"] (C9 K a))(c6:BF P w K mg base (a "Plank") 1 "writings" ["self"] (IM K a))(c5:C1 P w K mg base (4) "sweep" ["hold","broom"] (IN K a))(Dp:C1 P w K mg base (4) "_law_replayed" ["told","kind","hold","changes","size","turns"] (LD K a))(Dq:C1 P w K mg base (5) "_law_rounds_apart" ["cell"] (LE K a))(NR:BF P w K mg base (a "Plank") 2 "read" ["self","block"] (GL K a))(Dh:C1 P w K mg base (5) "_law_behind" ["hold","changes","last"] (LG K a))(HQ:C1 P w K mg base (4) "_law_chosen" ["broom","hold","due"] (EN K a)) :
  FP P w K mg base 6 f fd ["script"] (PU K a) :=
 F.okF (R8 K a) DL zO zN λ_ _ _ _ _ E hr hx=>(AN (BE 1 DL.nd (BU Dj hr.m hx.passes rfl (AD (AB 0) (AD AL AG))))
   (AN (BE 2 DL.nd (GD (AD (BL DY AL (BU DM hr.m hx.passes rfl (AD (AB 1) (AD AL (AD AL AG))))) (AD (BL DY AL (BU DM hr.m hx.passes rfl (AD (AB 1) (AD AL (AD AL AG))))) AG))))
   (AN (BE 3 DL.nd (CK (AD (FO LK hr.m hx.passes rfl (AD (AU AV (AB 2) AL (λ_ _=>rfl)) (AD (AU AV (AB 2) AL (λ_ _=>rfl)) AG))) (AD (FO LK hr.m hx.passes rfl (AD (AU AV (AB 2) AL (λ_ _=>rfl)) (AD (AU AV (AB 2) AL (λ_ _=>rfl)) AG))) AG))))
   (AN (BE 4 DL.nd (CK (AD (FO LJ hr.m hx.passes rfl (AD (AU AV (AB 3) AL (λ_ _=>rfl)) AG)) (AD (FO LJ hr.m hx.passes rfl (AD (AU AV (AB 3) AL (λ_ _=>rfl)) AG)) AG))))
   (AN (BE 5 DL.nd (CK AG))
   (AN (BE 6 DL.nd U6)
   (AN (CQ hx.po rfl (EJ (gH jG (AB 0) (UL AL) (UL AL))) (CT 7 DL.nd) (AQ (BR (DH (DT (BU Dk hr.m hx.passes rfl (AD (AB 4) (AD (AB 7) (AD (AB 2) (AD (AB 5) (AD (AB 6) AG)))))) (λ_=>rfl))) (AQ (A3 CN)) BT)))
   (AN (BE 8 DL.nd (CK (AD (WF T.Em rfl) (AD (WF T.Ep rfl) (AD (OM NS hr.m hx.passes rfl) (AD (OM NS hr.m hx.passes rfl) AG))))))
   (AN (CQ hx.po rfl (EJ (AB 8)) (CT 9 DL.nd) (AQ (BR (DH (DT (CM IJ rfl T.KC (by rfl) (AD (AB 9) (AD (iU T.El rfl) AG))) (λ_=>rfl))) (AQ (A3 CN)) BT)))
   (AN (BE 10 DL.nd (CK (AD (BL DY AL (BU DM hr.m hx.passes rfl (AD (AB 1) (AD AL (AD AL AG))))) (AD (BL DY AL (BU DM hr.m hx.passes rfl (AD (AB 1) (AD AL (AD AL AG))))) AG))))
   (AN (BR (PW.pt (LR (C0 (EI hr.units) (DB (AU AV (AB 4) AL (λ_ _=>rfl)) T.BY EC hr.m hx.passes) (CK AG) (B7 _)) (LP (DH (DT (BU Dg hr.m hx.passes rfl (AD (AB 8) (AD (AU AV (AB 4) AL (λ_ _=>rfl)) (AD (AB 5) (AD (AB 2) (AD (AB 10) AG)))))) (λ_=>rfl)))))) (AQ (A3 CN)) BT)
   (AN (BE 11 DL.nd (BU DM hr.m hx.passes rfl (AD (AB 1) (AD AL (AD AL AG)))))
   (AN (BE 12 DL.nd (BL KQ (AU AV (AB 10) (BL LZ (AB 11) AL) (λ_ _=>rfl)) (D4 T4 rfl T.NT (by rfl) (AD (GC (EI hr.units) (DB (AU AV (AB 4) AL (λ_ _=>rfl)) T.BY EC hr.m hx.passes) (CK AG) (B7 _)) AG))))
   (AN (BE 13 DL.nd (DB (AU AV (AB 3) AL (λ_ _=>rfl)) T.EE c6 hr.m hx.passes))
   (AN (BE 14 DL.nd (BU c5 hr.m hx.passes rfl (AD (AU AV (AB 4) AL (λ_ _=>rfl)) (AD (AU AV (AB 8) (AB 11) (λ_ _=>rfl)) AG))))
   (AN (BR (PW.pt (HX (DH (DT (CM IJ rfl T.KC (by rfl) (AD (AB 14) (AD (KE rfl T.HR (by rfl) rfl) AG))) (λ_=>rfl))) (LQ (C0 (EI hr.units) (DB (AU AV (AB 3) AL (λ_ _=>rfl)) T.EE c6 hr.m hx.passes) (BL DY (AB 13) (CM DZ rfl T.D2 (by rfl) (AD (AB 14) AG))) (B7 _))))) (AQ (A3 CN)) BT)
   (AN (BR (DH (DT (BU Dp hr.m hx.passes rfl (AD (AB 14) (AD (CM (pV rfl) rfl T.Ej (by rfl) (AD (AB 11) (AD AL AG))) (AD (AU AV (AB 4) AL (λ_ _=>rfl)) (AD (AB 5) (AD (AB 2) (AD (AB 12) AG))))))) (λ_=>rfl))) (AQ (A3 CN)) BT)
   (AN (BR (PW.pt (HX (C0 (EI hr.units) (DB (AU AV (AB 4) AL (λ_ _=>rfl)) T.BY EC hr.m hx.passes) (CK AG) (B7 _)) (HX (C0 (EI hr.units) (BU c5 hr.m hx.passes rfl (AD (AU AV (AB 4) AL (λ_ _=>rfl)) (AD (AU AV (AB 8) (BL LZ AL (BL EF (AB 11) AL)) (λ_ _=>rfl)) AG))) (CK AG) (B7 _)) (LQ (DH (DT (BU Dq hr.m hx.passes rfl (AD (AB 1) AG)) (λ_=>rfl))))))) (AQ (A3 CN)) BT)
   (AN (CQ hx.po rfl (D3 rfl T.ED (AD (AU AV (AB 2) AL (λ_ _=>rfl)) AG)) (CT 15 DL.nd) (AQ (BR (C0 (EI hr.units) (BX (AU AV (AB 3) AL (λ_ _=>rfl)) T.EE NR hr.m hx.passes (AD (AB 15) AG)) (BX (AU AV (AB 3) AL (λ_ _=>rfl)) T.EE NR hr.m hx.passes (AD (AB 15) AG)) (B7 _)) (AQ (A3 CN)) BT)))
   (AN (BR (DH (DT (BU Dh hr.m hx.passes rfl (AD (AU AV (AB 4) AL (λ_ _=>rfl)) (AD (AB 5) (AD (AB 6) AG)))) (λ_=>rfl))) (AQ (A3 CN)) BT)
   (AQ (A3 (dY (GC IG (AB 11) AL (B7 _)) (S9 (BU HQ hr.m hx.passes rfl (AD (AU AV (AB 8) (AB 11) (λ_ _=>rfl)) (AD (AU AV (AB 4) AL (λ_ _=>rfl)) (AD (BL EF (BL DY (AB 12) (CM DZ rfl T.D2 (by rfl) (AD (AB 14) AG))) (AU AV (AB 2) AL (λ_ _=>rfl))) AG))))))))))))))))))))))))))))
end
end L2
namespace L2
theorem Dc(q7l q7m q7n q7o q7p q7q q7r q7s:Addr):∃ a:Ad,a "Broom"=q7l/\a "Fullest"=q7m/\a "Round"=q7n/\a "NoBlock"=q7o/\a "NoChange"=q7p/\a "Change"=q7q/\a "Hold"=q7r/\a "Plank"=q7s :=
 ⟨λs=>if s="Broom" then q7l else if s="Fullest" then q7m else if s="Round" then q7n else if s="NoBlock" then q7o else if s="NoChange" then q7p else if s="Change" then q7q else if s="Hold" then q7r else if s="Plank" then q7s else 0,by simp,by simp,by simp,by simp,by simp,by simp,by simp,by simp⟩
theorem GT{α :Type}{P:List α ->Prop}(h:∀ x0,P [x0]):∀ us:List α,us.length=1->P us
 | [],e=>by simp at e
 | [x0],_=>h x0
 | _::_::_,e=>by simp at e
theorem DR{α :Type}{P:List α ->Prop}(h:∀ x0 x1,P [x0,x1]):∀ us:List α,us.length=2->P us
 | [],e=>by simp at e
 | [_],e=>by simp at e
 | [x0,x1],_=>h x0 x1
 | _::_::_::_,e=>by simp at e
theorem FF{α :Type}{P:List α ->Prop}(h:∀ x0 x1 x2,P [x0,x1,x2]):∀ us:List α,us.length=3->P us
 | [],e=>by simp at e
 | [_],e=>by simp at e
 | [_,_],e=>by simp at e
 | [x0,x1,x2],_=>h x0 x1 x2
 | _::_::_::_::_,e=>by simp at e
theorem cZ{α :Type}{P:List α ->Prop}(h:∀ x0 x1 x2 x3,P [x0,x1,x2,x3]):∀ us:List α,us.length=4->P us
 | [],e=>by simp at e
 | [_],e=>by simp at e
 | [_,_],e=>by simp at e
 | [_,_,_],e=>by simp at e
 | [x0,x1,x2,x3],_=>h x0 x1 x2 x3
 | _::_::_::_::_::_,e=>by simp at e
theorem SK{α :Type}{P:List α ->Prop}(h:∀ x0 x1 x2 x3 q7a,P [x0,x1,x2,x3,q7a]):∀ us:List α,us.length=5->P us
 | [],e=>by simp at e
 | [_],e=>by simp at e
 | [_,_],e=>by simp at e
 | [_,_,_],e=>by simp at e
 | [_,_,_,_],e=>by simp at e
 | [x0,x1,x2,x3,q7a],_=>h x0 x1 x2 x3 q7a
 | _::_::_::_::_::_::_,e=>by simp at e
theorem Dd{α :Type}{P:List α ->Prop}(h:∀ x0 x1 x2 x3 q7a q7b,P [x0,x1,x2,x3,q7a,q7b]):∀ us:List α,us.length=6->P us
 | [],e=>by simp at e
 | [_],e=>by simp at e
 | [_,_],e=>by simp at e
 | [_,_,_],e=>by simp at e
 | [_,_,_,_],e=>by simp at e
 | [_,_,_,_,_],e=>by simp at e
 | [x0,x1,x2,x3,q7a,q7b],_=>h x0 x1 x2 x3 q7a q7b
 | _::_::_::_::_::_::_::_,e=>by simp at e
def SL(K:W.Frag):Sp:=λvs H Q _=>∃ (s:Addr) (ns:List Int),vs=[.ref s]/\SqL K H s (ns.map V.int)/\ns.length<=63/\∀ H',Q (.bl true) H'
theorem all_mk{l:W.OpenLaw}{w:World}{K:W.Frag}{h:Heap}{mg:Str->Option Value}{fa:Addr}{q7l q7m q7n q7o q7p q7q q7r q7s:Addr}{q7t q7u q7v q7w q7x q7y q7z q80 q81 q82 q83 q84 q85 q86 q87 q88 q89 q8a q8b q8c q8d q8e q8f q8g q8h q8i q8j q8k q8l q8m q8n q8o q8p q8q q8r q8s q8t q8u q8v:Addr}{q8w q9z qb2 qc5 qd8 qeb q8x qa0 qb3 qc6 qd9 qec q8y qa1 qb4 qc7 qda qed q8z qa2 qb5 qc8 qdb qee q90 qa3 qb6 qc9 qdc qef q91 qa4 qb7 qca qdd qeg q92 qa5 qb8 qcb qde qeh q93 qa6 qb9 qcc qdf qei q94 qa7 qba qcd qdg qej q95 qa8 qbb qce qdh qek q96 qa9 qbc qcf qdi qel q97 qaa qbd qcg qdj qem q98 qab qbe qch qdk qen q99 qac qbf qci qdl qeo q9a qad qbg qcj qdm qep q9b qae qbh qck qdn qeq q9c qaf qbi qcl qdo qer q9d qag qbj qcm qdp qes q9e qah qbk qcn qdq qet q9f qai qbl qco qdr qeu q9g qaj qbm qcp qds qev q9h qak qbn qcq qdt qew q9i qal qbo qcr qdu qex q9j qam qbp qcs qdv qey q9k qan qbq qct qdw qez q9l qao qbr qcu qdx qf0 q9m qap qbs qcv qdy qf1 q9n qaq qbt qcw qdz qf2 q9o qar qbu qcx qe0 qf3 q9p qas qbv qcy qe1 qf4 q9q qat qbw qcz qe2 qf5 q9r qau qbx qd0 qe3 qf6 q9s qav qby qd1 qe4 qf7 q9t qaw qbz qd2 qe5 qf8 q9u qax qc0 qd3 qe6 qf9 q9v qay qc1 qd4 qe7 qfa q9w qaz qc2 qd5 qe8 qfb q9x qb0 qc3 qd6 qe9 qfc q9y qb1 qc4 qd7 qea qfd:Value}{qfe qgh qff qgi qfg qgj qfh qgk qfi qgl qfj qgm qfk qgn qfl qgo qfm qgp qfn qgq qfo qgr qfp qgs qfq qgt qfr qgu qfs qgv qft qgw qfu qgx qfv qgy qfw qgz qfx qh0 qfy qh1 qfz qh2 qg0 qh3 qg1 qh4 qg2 qh5 qg3 qh6 qg4 qh7 qg5 qh8 qg6 qh9 qg7 qha qg8 qhb qg9 qhc qga qhd qgb qhe qgc qhf qgd qhg qge qhh qgf qhi qgg qhj:Option Addr}{qhk qhl qhm qhn qho qhp qhq qhr qhs qht qhu qhv qhw qhx qhy qhz qi0 qi1 qi2 qi3 qi4 qi5 qi6 qi7 qi8 qi9 qia qib qic qid qie qif qig qih qii qij qik qil qim:Array (Option Value)}(X:K.In h)(G:h.Ns mainGlobals mg)(hfa:mg "law"=some (.ref fa))
  (q0:W.nsIn K mainGlobals "Broom"=some (some (.ref q7l)))
  (q1:W.nsIn K mainGlobals "Fullest"=some (some (.ref q7m)))
  (q2:W.nsIn K mainGlobals "Round"=some (some (.ref q7n)))
  (q3:W.nsIn K mainGlobals "NoBlock"=some (some (.ref q7o)))
  (q4:W.nsIn K mainGlobals "NoChange"=some (some (.ref q7p)))
  (q5:W.nsIn K mainGlobals "Change"=some (some (.ref q7q)))
  (q6:W.nsIn K mainGlobals "Hold"=some (some (.ref q7r)))
  (q7:W.nsIn K mainGlobals "Plank"=some (some (.ref q7s)))
  (q8:W.plainGet K q7l Str.empty=true)
  (q9:W.hasDictIn K q7l=true)
  (qa:W.plainOver K q7l=true)
  (qb:W.findIn K (.ref q7l) "__setattr__"=some (some (.builtin "object.__setattr__")))
  (qc:W.plainGet K q7q Str.empty=true)
  (qd:W.hasDictIn K q7q=true)
  (qe:W.plainOver K q7q=true)
  (qf:W.findIn K (.ref q7q) "__setattr__"=some (some (.builtin "object.__setattr__")))
  (qg:W.plainGet K q7m Str.empty=true)
  (qh:W.hasDictIn K q7m=true)
  (qi:W.plainOver K q7m=true)
  (qj:W.findIn K (.ref q7m) "__setattr__"=some (some (.builtin "object.__setattr__")))
  (qk:W.plainGet K q7r Str.empty=true)
  (ql:W.hasDictIn K q7r=true)
  (qm:W.plainOver K q7r=true)
  (qn:W.findIn K (.ref q7r) "__setattr__"=some (some (.builtin "object.__setattr__")))
  (qo:W.plainGet K q7s Str.empty=true)
  (qp:W.hasDictIn K q7s=true)
  (qq:W.plainOver K q7s=true)
  (qr:W.findIn K (.ref q7s) "__setattr__"=some (some (.builtin "object.__setattr__")))
  (qs:W.plainGet K q7n Str.empty=true)
  (qt:W.hasDictIn K q7n=true)
  (qu:W.plainOver K q7n=true)
  (qv:W.findIn K (.ref q7n) "__setattr__"=some (some (.builtin "object.__setattr__")))
  (qw:W.makesIn K q7l=true)
  (qx:W.keepIn K (.ref q7l)=true)
  (qy:W.findIn K (.ref q7l) "__init__"=some (some (.builtin "object.__init__")))
  (qz:W.makesIn K q7m=true)
  (q10:W.keepIn K (.ref q7m)=true)
  (q11:W.findIn K (.ref q7m) "__init__"=some (some (.builtin "object.__init__")))
  (q12:W.makesIn K q7q=true)
  (q13:W.keepIn K (.ref q7q)=true)
  (q14:W.makesIn K q7r=true)
  (q15:W.keepIn K (.ref q7r)=true)
  (q16:W.makesIn K q7s=true)
  (q17:W.keepIn K (.ref q7s)=true)
  (q18:W.makesIn K q7n=true)
  (q19:W.keepIn K (.ref q7n)=true)
  (q1a:W.excIn K q7o [.type "ValueError",.type "Exception",.type "BaseException",.type "object"] "ValueError.__new__"=true)
  (q1b:W.excIn K q7p [.type "ValueError",.type "Exception",.type "BaseException",.type "object"] "ValueError.__new__"=true)
  (q1c:W.nsIn K mainGlobals "bool"=some none)
  (q1d:W.nsIn K mainGlobals "dict"=some none)
  (q1e:W.nsIn K mainGlobals "int"=some none)
  (q1f:W.nsIn K mainGlobals "isinstance"=some none)
  (q1g:W.nsIn K mainGlobals "len"=some none)
  (q1h:W.nsIn K mainGlobals "list"=some none)
  (q1i:W.nsIn K mainGlobals "max"=some none)
  (q1j:W.nsIn K mainGlobals "min"=some none)
  (q1k:W.nsIn K mainGlobals "range"=some none)
  (q1l:W.nsIn K mainGlobals "set"=some none)
  (q1m:W.nsIn K mainGlobals "sorted"=some none)
  (q1n:W.nsIn K mainGlobals "tuple"=some none)
  (q1o:W.findIn K (.ref q7n) "__init__"=some (some (.ref q7t)))
  (q1p:W.isFn K (.ref q7t)=true)
  (q1q:K.lookup q7t=some ⟨q8w,qfe,.func (W.fnOf "__init__" "Round.__init__" (BD IZ) (A9 IZ) (AO IZ) .none q9z qb2 qc5 qgh qd8 qeb),qhk⟩)
  (q1r:W.codeIn K qd8 "Round.__init__"=true)
  (q1s:W.keepIn K (.ref q7t)=true)
  (q1t:W.findIn K (.ref q7q) "__init__"=some (some (.ref q7u)))
  (q1u:W.isFn K (.ref q7u)=true)
  (q1v:K.lookup q7u=some ⟨q8x,qff,.func (W.fnOf "__init__" "Change.__init__" (BD JA) (A9 JA) (AO JA) .none qa0 qb3 qc6 qgi qd9 qec),qhl⟩)
  (q1w:W.codeIn K qd9 "Change.__init__"=true)
  (q1x:W.keepIn K (.ref q7u)=true)
  (q1y:W.findIn K (.ref q7r) "waiting"=some (some (.ref q7v)))
  (q1z:W.isFn K (.ref q7v)=true)
  (q20:K.lookup q7v=some ⟨q8y,qfg,.func (W.fnOf "waiting" "Book.waiting" (BD HI) (A9 HI) (AO HI) .none qa1 qb4 qc7 qgj qda qed),qhm⟩)
  (q21:W.codeIn K qda "Book.waiting"=true)
  (q22:W.keepIn K (.ref q7v)=true)
  (q23:W.findIn K (.ref q7r) "block_of"=some (some (.ref q7w)))
  (q24:W.isFn K (.ref q7w)=true)
  (q25:K.lookup q7w=some ⟨q8z,qfh,.func (W.fnOf "block_of" "Book.block_of" (BD JB) (A9 JB) (AO JB) .none qa2 qb5 qc8 qgk qdb qee),qhn⟩)
  (q26:W.codeIn K qdb "Book.block_of"=true)
  (q27:W.keepIn K (.ref q7w)=true)
  (q28:W.findIn K (.ref q7r) "ask_for_changes"=some (some (.ref q7x)))
  (q29:W.isFn K (.ref q7x)=true)
  (q2a:K.lookup q7x=some ⟨q90,qfi,.func (W.fnOf "ask_for_changes" "Book.ask_for_changes" (BD JC) (A9 JC) (AO JC) .none qa3 qb6 qc9 qgl qdc qef),qho⟩)
  (q2b:W.codeIn K qdc "Book.ask_for_changes"=true)
  (q2c:W.keepIn K (.ref q7x)=true)
  (q2d:W.nsIn K mainGlobals "needs_with"=some (some (.ref q7y)))
  (q2e:K.lookup q7y=some ⟨q91,qfj,.func (W.fnOf "needs_with" "needs_with" (BD JD) (A9 JD) (AO JD) .none qa4 qb7 qca qgm qdd qeg),qhp⟩)
  (q2f:W.codeIn K qdd "needs_with"=true)
  (q2g:W.keepIn K (.ref q7y)=true)
  (q2h:W.findIn K (.ref q7r) "lack_of"=some (some (.ref q7z)))
  (q2i:W.isFn K (.ref q7z)=true)
  (q2j:K.lookup q7z=some ⟨q92,qfk,.func (W.fnOf "lack_of" "Hold.lack_of" (BD JE) (A9 JE) (AO JE) .none qa5 qb8 qcb qgn qde qeh),qhq⟩)
  (q2k:W.codeIn K qde "Hold.lack_of"=true)
  (q2l:W.keepIn K (.ref q7z)=true)
  (q2m:W.findIn K (.ref q7r) "laid_over"=some (some (.ref q80)))
  (q2n:W.isFn K (.ref q80)=true)
  (q2o:K.lookup q80=some ⟨q93,qfl,.func (W.fnOf "laid_over" "Hold.laid_over" (BD JF) (A9 JF) (AO JF) .none qa6 qb9 qcc qgo qdf qei),qhr⟩)
  (q2p:W.codeIn K qdf "Hold.laid_over"=true)
  (q2q:W.keepIn K (.ref q80)=true)
  (q2r:W.findIn K (.ref q7s) "__init__"=some (some (.ref q81)))
  (q2s:W.isFn K (.ref q81)=true)
  (q2t:K.lookup q81=some ⟨q94,qfm,.func (W.fnOf "__init__" "Plank.__init__" (BD HJ) (A9 HJ) (AO HJ) .none qa7 qba qcd qgp qdg qej),qhs⟩)
  (q2u:W.codeIn K qdg "Plank.__init__"=true)
  (q2v:W.keepIn K (.ref q81)=true)
  (q2w:W.findIn K (.ref q7s) "blocks"=some (some (.ref q82)))
  (q2x:W.isFn K (.ref q82)=true)
  (q2y:K.lookup q82=some ⟨q95,qfn,.func (W.fnOf "blocks" "Plank.blocks" (BD JG) (A9 JG) (AO JG) .none qa8 qbb qce qgq qdh qek),qht⟩)
  (q2z:W.codeIn K qdh "Plank.blocks"=true)
  (q30:W.keepIn K (.ref q82)=true)
  (q31:W.findIn K (.ref q7s) "cells"=some (some (.ref q83)))
  (q32:W.isFn K (.ref q83)=true)
  (q33:K.lookup q83=some ⟨q96,qfo,.func (W.fnOf "cells" "Plank.cells" (BD JH) (A9 JH) (AO JH) .none qa9 qbc qcf qgr qdi qel),qhu⟩)
  (q34:W.codeIn K qdi "Plank.cells"=true)
  (q35:W.keepIn K (.ref q83)=true)
  (q36:W.findIn K (.ref q7s) "writings"=some (some (.ref q84)))
  (q37:W.isFn K (.ref q84)=true)
  (q38:K.lookup q84=some ⟨q97,qfp,.func (W.fnOf "writings" "Plank.writings" (BD JI) (A9 JI) (AO JI) .none qaa qbd qcg qgs qdj qem),qhv⟩)
  (q39:W.codeIn K qdj "Plank.writings"=true)
  (q3a:W.keepIn K (.ref q84)=true)
  (q3b:W.findIn K (.ref q7s) "ask_for_block"=some (some (.ref q85)))
  (q3c:W.isFn K (.ref q85)=true)
  (q3d:K.lookup q85=some ⟨q98,qfq,.func (W.fnOf "ask_for_block" "Plank.ask_for_block" (BD JJ) (A9 JJ) (AO JJ) .none qab qbe qch qgt qdk qen),qhw⟩)
  (q3e:W.codeIn K qdk "Plank.ask_for_block"=true)
  (q3f:W.keepIn K (.ref q85)=true)
  (q3g:W.nsIn K mainGlobals "_law_cell_at"=some (some (.ref q86)))
  (q3h:K.lookup q86=some ⟨q99,qfr,.func (W.fnOf "_law_cell_at" "_law_cell_at" (BD JK) (A9 JK) (AO JK) .none qac qbf qci qgu qdl qeo),qhx⟩)
  (q3i:W.codeIn K qdl "_law_cell_at"=true)
  (q3j:W.keepIn K (.ref q86)=true)
  (q3k:W.nsIn K mainGlobals "_law_pick"=some (some (.ref q87)))
  (q3l:K.lookup q87=some ⟨q9a,qfs,.func (W.fnOf "_law_pick" "_law_pick" (BD JL) (A9 JL) (AO JL) .none qad qbg qcj qgv qdm qep),qhy⟩)
  (q3m:W.codeIn K qdm "_law_pick"=true)
  (q3n:W.keepIn K (.ref q87)=true)
  (q3o:W.nsIn K mainGlobals "_law_goes"=some (some (.ref q88)))
  (q3p:K.lookup q88=some ⟨q9b,qft,.func (W.fnOf "_law_goes" "_law_goes" (BD HK) (A9 HK) (AO HK) .none qae qbh qck qgw qdn qeq),qhz⟩)
  (q3q:W.codeIn K qdn "_law_goes"=true)
  (q3r:W.keepIn K (.ref q88)=true)
  (q3s:W.findIn K (.ref q7l) "chosen"=some (some (.ref q89)))
  (q3t:W.isFn K (.ref q89)=true)
  (q3u:K.lookup q89=some ⟨q9c,qfu,.func (W.fnOf "chosen" "Broom.chosen" (BD JN) (A9 JN) (AO JN) .none qaf qbi qcl qgx qdo qer),qi0⟩)
  (q3v:W.codeIn K qdo "Broom.chosen"=true)
  (q3w:W.keepIn K (.ref q89)=true)
  (q3x:W.findIn K (.ref q7r) "__init__"=some (some (.ref q8a)))
  (q3y:W.isFn K (.ref q8a)=true)
  (q3z:K.lookup q8a=some ⟨q9d,qfv,.func (W.fnOf "__init__" "Book.__init__" (BD HL) (A9 HL) (AO HL) .none qag qbj qcm qgy qdp qes),qi1⟩)
  (q40:W.codeIn K qdp "Book.__init__"=true)
  (q41:W.keepIn K (.ref q8a)=true)
  (q42:W.findIn K (.ref q7r) "needed"=some (some (.ref q8b)))
  (q43:W.isFn K (.ref q8b)=true)
  (q44:K.lookup q8b=some ⟨q9e,qfw,.func (W.fnOf "needed" "Book.needed" (BD JO) (A9 JO) (AO JO) .none qah qbk qcn qgz qdq qet),qi2⟩)
  (q45:W.codeIn K qdq "Book.needed"=true)
  (q46:W.keepIn K (.ref q8b)=true)
  (q47:W.findIn K (.ref q7r) "blocks"=some (some (.ref q8c)))
  (q48:W.isFn K (.ref q8c)=true)
  (q49:K.lookup q8c=some ⟨q9f,qfx,.func (W.fnOf "blocks" "Book.blocks" (BD JP) (A9 JP) (AO JP) .none qai qbl qco qh0 qdr qeu),qi3⟩)
  (q4a:W.codeIn K qdr "Book.blocks"=true)
  (q4b:W.keepIn K (.ref q8c)=true)
  (q4c:W.findIn K (.ref q7r) "ask_for_place"=some (some (.ref q8d)))
  (q4d:W.isFn K (.ref q8d)=true)
  (q4e:K.lookup q8d=some ⟨q9g,qfy,.func (W.fnOf "ask_for_place" "Book.ask_for_place" (BD JQ) (A9 JQ) (AO JQ) .none qaj qbm qcp qh1 qds qev),qi4⟩)
  (q4f:W.codeIn K qds "Book.ask_for_place"=true)
  (q4g:W.keepIn K (.ref q8d)=true)
  (q4h:W.findIn K (.ref q7r) "outcome"=some (some (.ref q8e)))
  (q4i:W.isFn K (.ref q8e)=true)
  (q4j:K.lookup q8e=some ⟨q9h,qfz,.func (W.fnOf "outcome" "Hold.outcome" (BD JR) (A9 JR) (AO JR) .none qak qbn qcq qh2 qdt qew),qi5⟩)
  (q4k:W.codeIn K qdt "Hold.outcome"=true)
  (q4l:W.keepIn K (.ref q8e)=true)
  (q4m:W.findIn K (.ref q7s) "read"=some (some (.ref q8f)))
  (q4n:W.isFn K (.ref q8f)=true)
  (q4o:K.lookup q8f=some ⟨q9i,qg0,.func (W.fnOf "read" "Plank.read" (BD JT) (A9 JT) (AO JT) .none qal qbo qcr qh3 qdu qex),qi6⟩)
  (q4p:W.codeIn K qdu "Plank.read"=true)
  (q4q:W.keepIn K (.ref q8f)=true)
  (q4r:W.findIn K (.ref q7s) "write"=some (some (.ref q8g)))
  (q4s:W.isFn K (.ref q8g)=true)
  (q4t:K.lookup q8g=some ⟨q9j,qg1,.func (W.fnOf "write" "Plank.write" (BD JU) (A9 JU) (AO JU) .none qam qbp qcs qh4 qdv qey),qi7⟩)
  (q4u:W.codeIn K qdv "Plank.write"=true)
  (q4v:W.keepIn K (.ref q8g)=true)
  (q4w:W.nsIn K mainGlobals "_law_fullest"=some (some (.ref q8h)))
  (q4x:K.lookup q8h=some ⟨q9k,qg2,.func (W.fnOf "_law_fullest" "_law_fullest" (BD HM) (A9 HM) (AO HM) .none qan qbq qct qh5 qdw qez),qi8⟩)
  (q4y:W.codeIn K qdw "_law_fullest"=true)
  (q4z:W.keepIn K (.ref q8h)=true)
  (q50:W.findIn K (.ref q7m) "chosen"=some (some (.ref q8i)))
  (q51:W.isFn K (.ref q8i)=true)
  (q52:K.lookup q8i=some ⟨q9l,qg3,.func (W.fnOf "chosen" "Fullest.chosen" (BD JV) (A9 JV) (AO JV) .none qao qbr qcu qh6 qdx qf0),qi9⟩)
  (q53:W.codeIn K qdx "Fullest.chosen"=true)
  (q54:W.keepIn K (.ref q8i)=true)
  (q55:W.findIn K (.ref q7n) "chosen"=some (some (.ref q8j)))
  (q56:W.isFn K (.ref q8j)=true)
  (q57:K.lookup q8j=some ⟨q9m,qg4,.func (W.fnOf "chosen" "Round.chosen" (BD JW) (A9 JW) (AO JW) .none qap qbs qcv qh7 qdy qf1),qia⟩)
  (q58:W.codeIn K qdy "Round.chosen"=true)
  (q59:W.keepIn K (.ref q8j)=true)
  (q5a:W.findIn K (.ref q7r) "newest"=some (some (.ref q8k)))
  (q5b:W.isFn K (.ref q8k)=true)
  (q5c:K.lookup q8k=some ⟨q9n,qg5,.func (W.fnOf "newest" "Book.newest" (BD JX) (A9 JX) (AO JX) .none qaq qbt qcw qh8 qdz qf2),qib⟩)
  (q5d:W.codeIn K qdz "Book.newest"=true)
  (q5e:W.keepIn K (.ref q8k)=true)
  (q5f:W.findIn K (.ref q7r) "write"=some (some (.ref q8l)))
  (q5g:W.isFn K (.ref q8l)=true)
  (q5h:K.lookup q8l=some ⟨q9o,qg6,.func (W.fnOf "write" "Hold.write" (BD JY) (A9 JY) (AO JY) .none qar qbu qcx qh9 qe0 qf3),qic⟩)
  (q5i:W.codeIn K qe0 "Hold.write"=true)
  (q5j:W.keepIn K (.ref q8l)=true)
  (q5k:W.nsIn K mainGlobals "_law_due"=some (some (.ref q8m)))
  (q5l:K.lookup q8m=some ⟨q9p,qg7,.func (W.fnOf "_law_due" "_law_due" (BD JZ) (A9 JZ) (AO JZ) .none qas qbv qcy qha qe1 qf4),qid⟩)
  (q5m:W.codeIn K qe1 "_law_due"=true)
  (q5n:W.keepIn K (.ref q8m)=true)
  (q5o:W.nsIn K mainGlobals "sweep"=some (some (.ref q8n)))
  (q5p:K.lookup q8n=some ⟨q9q,qg8,.func (W.fnOf "sweep" "sweep" (BD J0) (A9 J0) (AO J0) .none qat qbw qcz qhb qe2 qf5),qie⟩)
  (q5q:W.codeIn K qe2 "sweep"=true)
  (q5r:W.keepIn K (.ref q8n)=true)
  (q5s:W.findIn K (.ref q7r) "change"=some (some (.ref q8o)))
  (q5t:W.isFn K (.ref q8o)=true)
  (q5u:K.lookup q8o=some ⟨q9r,qg9,.func (W.fnOf "change" "Book.change" (BD J1) (A9 J1) (AO J1) .none qau qbx qd0 qhc qe3 qf6),qif⟩)
  (q5v:W.codeIn K qe3 "Book.change"=true)
  (q5w:W.keepIn K (.ref q8o)=true)
  (q5x:W.nsIn K mainGlobals "_law_chosen"=some (some (.ref q8p)))
  (q5y:K.lookup q8p=some ⟨q9s,qga,.func (W.fnOf "_law_chosen" "_law_chosen" (BD J2) (A9 J2) (AO J2) .none qav qby qd1 qhd qe4 qf7),qig⟩)
  (q5z:W.codeIn K qe4 "_law_chosen"=true)
  (q60:W.keepIn K (.ref q8p)=true)
  (q61:W.nsIn K mainGlobals "_law_replayed"=some (some (.ref q8q)))
  (q62:K.lookup q8q=some ⟨q9t,qgb,.func (W.fnOf "_law_replayed" "_law_replayed" (BD J3) (A9 J3) (AO J3) .none qaw qbz qd2 qhe qe5 qf8),qih⟩)
  (q63:W.codeIn K qe5 "_law_replayed"=true)
  (q64:W.keepIn K (.ref q8q)=true)
  (q65:W.nsIn K mainGlobals "_law_done"=some (some (.ref q8r)))
  (q66:K.lookup q8r=some ⟨q9u,qgc,.func (W.fnOf "_law_done" "_law_done" (BD J4) (A9 J4) (AO J4) .none qax qc0 qd3 qhf qe6 qf9),qii⟩)
  (q67:W.codeIn K qe6 "_law_done"=true)
  (q68:W.keepIn K (.ref q8r)=true)
  (q69:W.nsIn K mainGlobals "_law_asked"=some (some (.ref q8s)))
  (q6a:K.lookup q8s=some ⟨q9v,qgd,.func (W.fnOf "_law_asked" "_law_asked" (BD J6) (A9 J6) (AO J6) .none qay qc1 qd4 qhg qe7 qfa),qij⟩)
  (q6b:W.codeIn K qe7 "_law_asked"=true)
  (q6c:W.keepIn K (.ref q8s)=true)
  (q6d:W.nsIn K mainGlobals "_law_rounds_apart"=some (some (.ref q8t)))
  (q6e:K.lookup q8t=some ⟨q9w,qge,.func (W.fnOf "_law_rounds_apart" "_law_rounds_apart" (BD J8) (A9 J8) (AO J8) .none qaz qc2 qd5 qhh qe8 qfb),qik⟩)
  (q6f:W.codeIn K qe8 "_law_rounds_apart"=true)
  (q6g:W.keepIn K (.ref q8t)=true)
  (q6h:W.nsIn K mainGlobals "_law_behind"=some (some (.ref q8u)))
  (q6i:K.lookup q8u=some ⟨q9x,qgf,.func (W.fnOf "_law_behind" "_law_behind" (BD J9) (A9 J9) (AO J9) .none qb0 qc3 qd6 qhi qe9 qfc),qil⟩)
  (q6j:W.codeIn K qe9 "_law_behind"=true)
  (q6k:W.keepIn K (.ref q8u)=true)
  (q6l:W.nsIn K mainGlobals "law"=some (some (.ref q8v)))
  (q6m:K.lookup q8v=some ⟨q9y,qgg,.func (W.fnOf "law" "law" (BD F1) (A9 F1) (AO F1) .none qb1 qc4 qd7 qhj qea qfd),qim⟩)
  (q6n:W.codeIn K qea "law"=true)
  (q6o:W.keepIn K (.ref q8v)=true)
  (q6p:W.findIn K (.ref q7r) "waiting"=some (some (.ref q7v)))
  (q6q:W.findIn K (.ref q7r) "block_of"=some (some (.ref q7w)))
  (q6r:W.findIn K (.ref q7r) "blocks"=some (some (.ref q8c)))
  (q6s:W.findIn K (.ref q7r) "newest"=some (some (.ref q8k)))
  (q6t:W.findIn K (.ref q7r) "ask_for_changes"=some (some (.ref q7x)))
  (q6u:W.findIn K (.ref q7r) "ask_for_place"=some (some (.ref q8d)))
  (q6v:W.findIn K (.ref q7r) "change"=some (some (.ref q8o)))
  (q6w:W.findIn K (.ref q7r) "__init__"=some (some (.ref q8a)))
  (q6x:W.findIn K (.ref q7r) "needed"=some (some (.ref q8b)))
  (q6y:W.findIn K (.ref q7s) "contents"=some none)
  (q6z:W.findIn K (.ref q7s) "width"=some none)
  (q70:W.findIn K (.ref q7s) "written"=some none)
  (q71:W.findIn K (.ref q7r) "ground"=some none)
  (q72:W.findIn K (.ref q7r) "made"=some none)
  (q73:W.findIn K (.ref q7r) "made_in"=some none)
  (q74:W.findIn K (.ref q7r) "latest"=some none)
  (q75:W.findIn K (.ref q7r) "outs"=some none)
  (q76:W.findIn K (.ref q7q) "place"=some none)
  (q77:W.findIn K (.ref q7q) "value"=some none)
  (q78:W.findIn K (.ref q7q) "needs"=some none)
  (q79:W.findIn K (.ref q7n) "turns"=some none)
  (q7a:W.specialIn K (.builtin "object.__class__") "__get__"=some (some (.builtin "getset_descriptor.__get__")))
  (q7b:W.takesIn K (.builtin "object.__class__")=some true)
  (q7c:W.findIn K (.ref q7l) "__class__"=some (some (.builtin "object.__class__")))
  (q7d:W.mroIn K q7l (.type "object")=some true)
  (q7e:W.kitOne K (.ref q7l) (.ref q7l)=some true)
  (q7f:W.findIn K (.ref q7m) "__class__"=some (some (.builtin "object.__class__")))
  (q7g:W.mroIn K q7m (.type "object")=some true)
  (q7h:W.kitOne K (.ref q7m) (.ref q7l)=some true)
  (q7i:W.findIn K (.ref q7n) "__class__"=some (some (.builtin "object.__class__")))
  (q7j:W.mroIn K q7n (.type "object")=some true)
  (q7k:W.kitOne K (.ref q7n) (.ref q7l)=some true) :
  ∃ fd:FuncData,(∀ (s:Shared) (v:Value),BindsTo s fd ⟨[v],[]⟩ [("script",v)])/\∀ base:Heap,K.In base->base.Ns mainGlobals mg->FnOk l.prog w K mg base (CS l.prog w) 6 fa fd ["script"] (SL K):=by
 obtain⟨a,rfl,rfl,rfl,rfl,rfl,rfl,rfl,rfl⟩:=Dc q7l q7m q7n q7o q7p q7q q7r q7s
 have e:=hfa.symm.trans (W.mg_of X G q6l)
 cases e
 have T:Txt K mg a:=⟨⟨q8,q9,qa,qb⟩,⟨qc,qd,qe,qf⟩,⟨qg,qh,qi,qj⟩,⟨qk,ql,qm,qn⟩,⟨qo,qp,qq,qr⟩,⟨qs,qt,qu,qv⟩,⟨qw,qy,qx,W.mg_of X G q0⟩,⟨qz,q11,q10,W.mg_of X G q1⟩,W.mg_of X G q0,⟨_,W.mg_of X G q0,rfl⟩,W.mg_of X G q3,⟨_,W.mg_of X G q3,rfl⟩,⟨q1a⟩,W.mg_of X G q4,⟨_,W.mg_of X G q4,rfl⟩,⟨q1b⟩,W.mg_none_of X G q1c,W.mg_none_of X G q1d,W.mg_none_of X G q1e,W.mg_none_of X G q1f,W.mg_none_of X G q1g,W.mg_none_of X G q1h,W.mg_none_of X G q1i,W.mg_none_of X G q1j,W.mg_none_of X G q1k,W.mg_none_of X G q1l,W.mg_none_of X G q1m,W.mg_none_of X G q1n⟩
 have TPk:C7 K a:=⟨T.EE,q6y,q6z,q70⟩
 have TBk:WQ K (a "Hold") (a "Change"):=⟨T.BY,q71,q72,q73,q74,q75,T.Ek,q76,q77,q78⟩
 have TXX:TX K a:=⟨T.NU,q79,λe=>.ins e T.SZ q7c q7a q7b q7d,λe=>.ins e T.S0 q7f q7a q7b q7g,λe=>.ins e T.NU q7i q7a q7b q7j,q7e,q7h,q7k⟩
 have qin:=BH (st:=IZ) q1q q1r q1s
 have qjq:=qin.binds (ps:=["self"]) λ_ _ _ _ _ _=>GT λ_=>rfl
 have qio:=BH (st:=JA) q1v q1w q1x
 have qjr:=qio.binds (ps:=["self","place","value","needs"]) λ_ _ _ _ _ _=>cZ λ_ _ _ _=>rfl
 have qip:=BH (st:=HI) q20 q21 q22
 have qjs:=qip.binds (ps:=["self"]) λ_ _ _ _ _ _=>GT λ_=>rfl
 have qiq:=BH (st:=JB) q25 q26 q27
 have qjt:=qiq.binds (ps:=["self","number"]) λ_ _ _ _ _ _=>DR λ_ _=>rfl
 have qir:=BH (st:=JC) q2a q2b q2c
 have qju:=qir.binds (ps:=["self","numbers"]) λ_ _ _ _ _ _=>DR λ_ _=>rfl
 have qis:=BH (st:=JD) q2e q2f q2g
 have qjv:=qis.binds (ps:=["needs","ahead"]) λ_ _ _ _ _ _=>DR λ_ _=>rfl
 have qit:=BH (st:=JE) q2j q2k q2l
 have qjw:=qit.binds (ps:=["self","number","gone"]) λ_ _ _ _ _ _=>FF λ_ _ _=>rfl
 have qiu:=BH (st:=JF) q2o q2p q2q
 have qjx:=qiu.binds (ps:=["self","values","block"]) λ_ _ _ _ _ _=>FF λ_ _ _=>rfl
 have qiv:=BH (st:=HJ) q2t q2u q2v
 have qjy:=qiv.binds (ps:=["self","blocks","cells"]) λ_ _ _ _ _ _=>FF λ_ _ _=>rfl
 have qiw:=BH (st:=JG) q2y q2z q30
 have qjz:=qiw.binds (ps:=["self"]) λ_ _ _ _ _ _=>GT λ_=>rfl
 have qix:=BH (st:=JH) q33 q34 q35
 have qk0:=qix.binds (ps:=["self"]) λ_ _ _ _ _ _=>GT λ_=>rfl
 have qiy:=BH (st:=JI) q38 q39 q3a
 have qk1:=qiy.binds (ps:=["self"]) λ_ _ _ _ _ _=>GT λ_=>rfl
 have qiz:=BH (st:=JJ) q3d q3e q3f
 have qk2:=qiz.binds (ps:=["self","block"]) λ_ _ _ _ _ _=>DR λ_ _=>rfl
 have qj0:=BH (st:=JK) q3h q3i q3j
 have qk3:=qj0.binds (ps:=["script","k"]) λ_ _ _ _ _ _=>DR λ_ _=>rfl
 have qj1:=BH (st:=JL) q3l q3m q3n
 have qk4:=qj1.binds (ps:=["cell","prime","many"]) λ_ _ _ _ _ _=>FF λ_ _ _=>rfl
 have qj2:=BH (st:=HK) q3p q3q q3r
 have qk5:=qj2.binds (ps:=["changes","waiting","block"]) λ_ _ _ _ _ _=>FF λ_ _ _=>rfl
 have qj3:=BH (st:=JN) q3u q3v q3w
 have qk6:=qj3.binds (ps:=["self","hold"]) λ_ _ _ _ _ _=>DR λ_ _=>rfl
 have qj4:=BH (st:=HL) q3z q40 q41
 have qk7:=qj4.binds (ps:=["self","plank"]) λ_ _ _ _ _ _=>DR λ_ _=>rfl
 have qj5:=BH (st:=JO) q44 q45 q46
 have qk8:=qj5.binds (ps:=["self","number"]) λ_ _ _ _ _ _=>DR λ_ _=>rfl
 have qj6:=BH (st:=JP) q49 q4a q4b
 have qk9:=qj6.binds (ps:=["self"]) λ_ _ _ _ _ _=>GT λ_=>rfl
 have qj7:=BH (st:=JQ) q4e q4f q4g
 have qka:=qj7.binds (ps:=["self","place"]) λ_ _ _ _ _ _=>DR λ_ _=>rfl
 have qj8:=BH (st:=JR) q4j q4k q4l
 have qkb:=qj8.binds (ps:=["self","block","taken"]) λ_ _ _ _ _ _=>FF λ_ _ _=>rfl
 have qj9:=BH (st:=JT) q4o q4p q4q
 have qkc:=qj9.binds (ps:=["self","block"]) λ_ _ _ _ _ _=>DR λ_ _=>rfl
 have qja:=BH (st:=JU) q4t q4u q4v
 have qkd:=qja.binds (ps:=["self","block","values"]) λ_ _ _ _ _ _=>FF λ_ _ _=>rfl
 have qjb:=BH (st:=HM) q4x q4y q4z
 have qke:=qjb.binds (ps:=["changes","waiting","blocks"]) λ_ _ _ _ _ _=>FF λ_ _ _=>rfl
 have qjc:=BH (st:=JV) q52 q53 q54
 have qkf:=qjc.binds (ps:=["self","hold"]) λ_ _ _ _ _ _=>DR λ_ _=>rfl
 have qjd:=BH (st:=JW) q57 q58 q59
 have qkg:=qjd.binds (ps:=["self","hold"]) λ_ _ _ _ _ _=>DR λ_ _=>rfl
 have qje:=BH (st:=JX) q5c q5d q5e
 have qkh:=qje.binds (ps:=["self","place"]) λ_ _ _ _ _ _=>DR λ_ _=>rfl
 have qjf:=BH (st:=JY) q5h q5i q5j
 have qki:=qjf.binds (ps:=["self","block"]) λ_ _ _ _ _ _=>DR λ_ _=>rfl
 have qjg:=BH (st:=JZ) q5l q5m q5n
 have qkj:=qjg.binds (ps:=["kind","changes","waiting","blocks","turns"]) λ_ _ _ _ _ _=>SK λ_ _ _ _ _=>rfl
 have qjh:=BH (st:=J0) q5p q5q q5r
 have qkk:=qjh.binds (ps:=["hold","broom"]) λ_ _ _ _ _ _=>DR λ_ _=>rfl
 have qji:=BH (st:=J1) q5u q5v q5w
 have qkl:=qji.binds (ps:=["self","place","value","needs"]) λ_ _ _ _ _ _=>cZ λ_ _ _ _=>rfl
 have qjj:=BH (st:=J2) q5y q5z q60
 have qkm:=qjj.binds (ps:=["broom","hold","due"]) λ_ _ _ _ _ _=>FF λ_ _ _=>rfl
 have qjk:=BH (st:=J3) q62 q63 q64
 have qkn:=qjk.binds (ps:=["told","kind","hold","changes","size","turns"]) λ_ _ _ _ _ _=>Dd λ_ _ _ _ _ _=>rfl
 have qjl:=BH (st:=J4) q66 q67 q68
 have qko:=qjl.binds (ps:=["holds","cell","size","changes","last"]) λ_ _ _ _ _ _=>SK λ_ _ _ _ _=>rfl
 have qjm:=BH (st:=J6) q6a q6b q6c
 have qkp:=qjm.binds (ps:=["brooms","hold","changes","size","turns"]) λ_ _ _ _ _ _=>SK λ_ _ _ _ _=>rfl
 have qjn:=BH (st:=J8) q6e q6f q6g
 have qkq:=qjn.binds (ps:=["cell"]) λ_ _ _ _ _ _=>GT λ_=>rfl
 have qjo:=BH (st:=J9) q6i q6j q6k
 have qkr:=qjo.binds (ps:=["hold","changes","last"]) λ_ _ _ _ _ _=>FF λ_ _ _=>rfl
 have qjp:=BH (st:=F1) q6m q6n q6o
 have qks:=qjp.binds (ps:=["script"]) λ_ _ _ _ _ _=>GT λ_=>rfl
 refine⟨W.fnOf "law" "law" (BD F1) (A9 F1) (AO F1) .none qb1 qc4 qd7 qhj qea qfd,λs v=>.of_eq rfl,λbase _ _=> ?_⟩
 have qkt:=zQ l.prog w base T qin
 have qku:=zS l.prog w base T qio
 have qkv:=zU l.prog w base T qip
 have qkw:=zW l.prog w base T qiq
 have qkx:=zX l.prog w base T qir
 have qky:=zZ l.prog w base T qis
 have qkz:=z0 l.prog w base T qit
 have ql0:=z3 l.prog w base T qiu
 have ql1:=z6 l.prog w base T qiv
 have ql2:=Ab l.prog w base T qiw
 have ql3:=Ag l.prog w base T qix
 have ql4:=Aj l.prog w base T qiy
 have ql5:=Al l.prog w base T qiz
 have ql6:=Aq l.prog w base T qj0
 have ql7:=Av l.prog w base T qj1
 have ql8:=Aw l.prog w base T qj2
 have ql9:=Az l.prog w base T qj3 ⟨_,_,qkv,⟨q6p,q1z,q22⟩,qjs⟩ ⟨_,_,qkw,⟨q6q,q24,q27⟩,qjt⟩
 have qla:=Bc l.prog w base T qj4 ⟨_,_,ql2,⟨q2w,q2x,q30⟩,qjz⟩
 have qlb:=Bg l.prog w base T qj5 ⟨_,_,qkx,⟨q6t,q29,q2c⟩,qju⟩
 have qlc:=Bj l.prog w base T qj6 ⟨_,_,ql2,⟨q2w,q2x,q30⟩,qjz⟩
 have qld:=Bl l.prog w base T qj7 ⟨_,_,ql3,⟨q31,q32,q35⟩,qk0⟩ ⟨_,_,ql2,⟨q2w,q2x,q30⟩,qjz⟩
 have qle:=Bm l.prog w base T qj8 ⟨_,_,qkz,⟨q2h,q2i,q2l⟩,qjw⟩
 have qlf:=Bq l.prog w base T qj9 ⟨_,_,ql5,⟨q3b,q3c,q3f⟩,qk2⟩
 have qlg:=Bw l.prog w base T qja ⟨_,_,ql5,⟨q3b,q3c,q3f⟩,qk2⟩
 have qlh:=By l.prog w base T qjb ⟨_,_,ql8,W.mg_of X G q3o,q3r,qk5⟩
 have qli:=Bz l.prog w base T qjc ⟨_,_,qlc,⟨q6r,q48,q4b⟩,qk9⟩ ⟨_,_,qle,⟨q4h,q4i,q4l⟩,qkb⟩
 have qlj:=Cb l.prog w base T qjd ⟨_,_,qlc,⟨q6r,q48,q4b⟩,qk9⟩
 have qlk:=Cd l.prog w base T qje ⟨_,_,qld,⟨q6u,q4d,q4g⟩,qka⟩
 have qll:=Cg l.prog w base T qjf ⟨_,_,qlf,⟨q4m,q4n,q4q⟩,qkc⟩ ⟨_,_,qle,⟨q4h,q4i,q4l⟩,qkb⟩ ⟨_,_,ql0,⟨q2m,q2n,q2q⟩,qjx⟩ ⟨_,_,qlg,⟨q4r,q4s,q4v⟩,qkd⟩
 have qlm:=Ck l.prog w base T qjg ⟨_,_,qlh,W.mg_of X G q4w,q4z,qke⟩
 have qln:=Cl l.prog w base T qjh ⟨_,_,qkv,⟨q6p,q1z,q22⟩,qjs⟩ ⟨_,_,ql9,⟨q3s,q3t,q3w⟩,qk6⟩ ⟨_,_,qli,⟨q50,q51,q54⟩,qkf⟩ ⟨_,_,qlj,⟨q55,q56,q59⟩,qkg⟩ ⟨_,_,qll,⟨q5f,q5g,q5j⟩,qki⟩
 have qlo:=Cm l.prog w base T qji ⟨_,_,qlk,⟨q6s,q5b,q5e⟩,qkh⟩ ⟨_,_,qkx,⟨q6t,q29,q2c⟩,qju⟩ ⟨_,_,qky,W.mg_of X G q2d,q2g,qjv⟩ ⟨_,_,qku,⟨q12,q1t,q1u,q13⟩,W.mg_of X G q5,qjr⟩
 have qlp:=Cp l.prog w base T qjj ⟨_,_,ql9,⟨q3s,q3t,q3w⟩,qk6⟩ ⟨_,_,qli,⟨q50,q51,q54⟩,qkf⟩ ⟨_,_,qlj,⟨q55,q56,q59⟩,qkg⟩
 have qlq:=Cq l.prog w base T qjk ⟨_,_,qkv,⟨q6p,q1z,q22⟩,qjs⟩ ⟨_,_,qlm,W.mg_of X G q5k,q5n,qkj⟩ ⟨_,_,qll,⟨q5f,q5g,q5j⟩,qki⟩
 have qlr:=Cv l.prog w base T qjl ⟨_,_,ql7,W.mg_of X G q3k,q3n,qk4⟩ ⟨_,_,qll,⟨q5f,q5g,q5j⟩,qki⟩ ⟨_,_,qlo,⟨q6v,q5t,q5w⟩,qkl⟩
 have qls:=Cw l.prog w base T qjm ⟨_,_,qkv,⟨q6p,q1z,q22⟩,qjs⟩ ⟨_,_,qlm,W.mg_of X G q5k,q5n,qkj⟩ ⟨_,_,qlp,W.mg_of X G q5x,q60,qkm⟩
 have qlt:=Cy l.prog w base T qjn ⟨_,_,ql7,W.mg_of X G q3k,q3n,qk4⟩ ⟨_,_,ql1,⟨q16,q2r,q2s,q17⟩,W.mg_of X G q7,qjy⟩ ⟨_,_,qla,⟨q14,q6w,q3y,q15⟩,W.mg_of X G q6,qk7⟩ ⟨_,_,qlo,⟨q6v,q5t,q5w⟩,qkl⟩ ⟨_,_,qkt,⟨q18,q1o,q1p,q19⟩,W.mg_of X G q2,qjq⟩ ⟨_,_,qlp,W.mg_of X G q5x,q60,qkm⟩
 have qlu:=Cz l.prog w base T qjo ⟨_,_,qlb,⟨q6x,q43,q46⟩,qk8⟩ ⟨_,_,qlk,⟨q6s,q5b,q5e⟩,qkh⟩ ⟨_,_,qlo,⟨q6v,q5t,q5w⟩,qkl⟩
 have qlv:=Db l.prog w base T qjp ⟨_,_,ql6,W.mg_of X G q3g,q3j,qk3⟩ ⟨_,_,ql7,W.mg_of X G q3k,q3n,qk4⟩ ⟨_,_,ql1,⟨q16,q2r,q2s,q17⟩,W.mg_of X G q7,qjy⟩ ⟨_,_,qla,⟨q14,q6w,q3y,q15⟩,W.mg_of X G q6,qk7⟩ ⟨_,_,qlr,W.mg_of X G q65,q68,qko⟩ ⟨_,_,qkt,⟨q18,q1o,q1p,q19⟩,W.mg_of X G q2,qjq⟩ ⟨_,_,qls,W.mg_of X G q69,q6c,qkp⟩ ⟨_,_,qkv,⟨q6p,q1z,q22⟩,qjs⟩ ⟨_,_,ql4,⟨q36,q37,q3a⟩,qk1⟩ ⟨_,_,qln,W.mg_of X G q5o,q5r,qkk⟩ ⟨_,_,qlq,W.mg_of X G q61,q64,qkn⟩ ⟨_,_,qlt,W.mg_of X G q6d,q6g,qkq⟩ ⟨_,_,qlf,⟨q4m,q4n,q4q⟩,qkc⟩ ⟨_,_,qlu,W.mg_of X G q6h,q6k,qkr⟩ ⟨_,_,qlp,W.mg_of X G q5x,q60,qkm⟩
 exact qlv.imp (λvs H Q E ⟨s,ns,e,hs,hn,q⟩=>⟨s,ns,e,⟨TBk,TPk,TXX⟩,hs,hn,q⟩)
theorem walk{l:W.OpenLaw}{q:Program}{loose:List Str}{XP:(Str->Option Value)->Heap->Prop}{YP:World->Heap->Prop}{d:DefRec}{K:Params->W.Frag}(hn:l.most=some 63)(hdf:d.params.defaults=[])
  (hY:∀ (w:World) (h:Heap),YP w h->(K w.params).In h)
  (F:∀ (w:World) (mg:Str->Option Value) (fa:Addr) (h:Heap),(K w.params).In h->h.Ns mainGlobals mg->mg d.name=some (.ref fa) →
   ∃ fd:FuncData,(∀ (s:Shared) (u:Value),BindsTo s fd ⟨[u],[]⟩ [("script",u)])/\∀ base:Heap,(K w.params).In base->base.Ns mainGlobals mg->FnOk l.prog w (K w.params) mg base (CS l.prog w) 6 fa fd ["script"] (SL (K w.params))) :
  W.WalkO q loose XP YP l.row.toRowW d [] (λf vs=>PySem.call f vs) :=
 L2.walk_of (n:=63) (k:=6) (x:="script") (CX:=λw=>CS l.prog w) (sp:=λw=>SL (K w.params)) hn (by decide) hdf ⟨rfl,by decide,by decide⟩ hY F (λ_ _ a ns hl _ hS=>⟨a,ns,rfl,hS,hl,λ_=>rfl⟩) λ_ _ _ _ _ z=>VH z
end L2
namespace PySem.W.Fast
def tw10522211140839146887:=()
def tw3794192554602180509:=()
def tw3636807401278327888:=()
def tw15360598567955894071:=()
def tw8844183843065610634:=()
def tw6261888731200506592:=()
def tw15771041072999174640:=()
def tw5656737008500438296:=()
def tw18387351169804893538:=()
def tw11062584073824590097:=()
def tw2891217081693641359:=()
def tw13836192159405905065:=()
def tw15110444894055380789:=()
def tw5558049312684585786:=()
def tw16708214526068032292:=()
def tw14056857305887202457:=()
def tw10082791548393937586:=()
def tw11698393477975700289:=()
def tw15623245903029124553:=()
def tw1480786547203063614:=()
def tw5706077518833161990:=()
def tw5079243960287689426:=()
def tw7777526665102950180:=()
def tw13827178359673205612:=()
def tw15565808321058938496:=()
def tw16962106172952441856:=()
def tw8365117289857816023:=()
def tw9001646307196398516:=()
def tw3032748693435248067:=()
def tw18125432995237474716:=()
def tw11279686918473446150:=()
def tw8909199771841277718:=()
def tw7260288761197462216:=()
def tw3848646942852296592:=()
def tw4898537714684453583:=()
def tw10855250363935688545:=()
def tw2952601609330410581:=()
def tw11411003096251275369:=()
def tw7094118484599990458:=()
def tw13804621450645129671:=()
def tw10399723991423606776:=()
def tw18422451434373897353:=()
def tw9746854131134920544:=()
def tw10473025474696534409:=()
def tw18366616202933275208:=()
def tw1482980840365974886:=()
def tw13245587753596584586:=()
def tw16291627343611887321:=()
def tw7062232826486415124:=()
def tw2117059009114102312:=()
def tw5686081963141859829:=()
def tw15816335277605949039:=()
def tw12059012037822375953:=()
def tw16651321794211289366:=()
def tw7943262554591813333:=()
def tw1830513086576482389:=()
def tw13101486076933418354:=()
def tw1213517511084855196:=()
def tw14520949188251374057:=()
def tw17627003063691493849:=()
def tw15732672347729304461:=()
def tw17811345518483263650:=()
def tw13086502697758581892:=()
def tw8275426981770687786:=()
def tw1466874335858162855:=()
def tw7803522682874285841:=()
def tw11071341609021657478:=()
def tw12087290619160418235:=()
def tw2373337965379081359:=()
def tw11628999133488317824:=()
def tw657463497517293239:=()
def tw6448180053530172088:=()
def tw14760733199307025697:=()
def tw13500446758432403150:=()
def tw535637578566810118:=()
def tw3431094422110470638:=()
def tw5975864974621038188:=()
def tw8417032379453361938:=()
def tw12593242230775264811:=()
def tw14129232698556571030:=()
def tw17522124862546860271:=()
def tw16589910201576978027:=()
def tw14100099016572599728:=()
def tw5217195501747394789:=()
def tw2531722658760879568:=()
def tw3184148618126163081:=()
def tw760500357543141531:=()
def tw15383957859155853463:=()
def tw8919135088123454423:=()
def tw5395137418726646224:=()
def tw6150760757387598423:=()
def tw1877171347495528583:=()
def tw18007394473478709643:=()
def tw11945786087138707563:=()
def tw4549961257544135211:=()
def tw9934171643876206834:=()
def tw13906212585469207748:=()
def tw14797451591943354127:=()
def tw11446572225732072174:=()
def tw7020210343786159938:=()
def tw2686413292058415304:=()
def tw2436954797338312204:=()
def tw3770122949166426345:=()
def tw638326566229341947:=()
def tw9586176096302555278:=()
def tw17027192079333805300:=()
def tw864204100341784772:=()
def tw8672948665407205279:=()
def tw9734835476572101328:=()
def tw7370460365945996245:=()
def tw15117379396167971289:=()
def tw5446804000313624783:=()
def tw4811588323550288830:=()
def tw9659490051116181967:=()
def tw302738116666151578:=()
def tw12076310798864667689:=()
def tw12626564882283088106:=()
def tw7095637872426929487:=()
def tw4195066081455957172:=()
def tw8288208657729857974:=()
def tw12681026367287336968:=()
def tw13239982268321416833:=()
def tw9320049107696167121:=()
def tw10653755512738809034:=()
def tw4498404650972452316:=()
def tw14594413000632391252:=()
def tw17970432008244311146:=()
def tw1989318369182850853:=()
def tw16091243992696420803:=()
def tw5298839653866237177:=()
def tw9291837632901056287:=()
def tw14818007497566834715:=()
def tw13823495005073904255:=()
def tw20778260439646321:=()
def tw10083978636597900500:=()
def tw17325887889191062413:=()
def tw9151811480919204073:=()
def tw5448850486015381100:=()
def tw2352015486088041056:=()
def tw9010096417223803090:=()
def tw6154080019083837030:=()
def tw8813132762377989131:=()
def tw9022026049364408142:=()
def tw11516776239050117549:=()
def tw9001349966846714442:=()
def tw14768462150638278951:=()
def tw6111276424067724657:=()
def tw94078128035827937:=()
def tw914809079720780226:=()
def tw2675777254829391195:=()
def tw15856390250514038468:=()
def tw1813796376564091288:=()
def tw13340879056445524755:=()
def tw16614175323484458524:=()
def tw2865577437008070540:=()
def tw17251370255396027124:=()
def tw17145857976145304032:=()
def tw6500242289738202697:=()
def tw3147526382536008298:=()
def tw7581211035843760849:=()
def tw18431745291932729670:=()
def tw7722606781325651418:=()
def tw15029899429641830168:=()
def tw9859207754210959868:=()
def tw10954585982023409283:=()
def tw15120848056457192406:=()
def tw6679634255203736194:=()
def tw316405555767058722:=()
def tw4826296936908979882:=()
def tw5382002006777220791:=()
def tw9482936226551028615:=()
def tw7139816057477394287:=()
def tw5702186244062585502:=()
def tw2314627111063982583:=()
def tw13258812748262552246:=()
def tw12693238577236077205:=()
def tw15188031414783195238:=()
def tw2871580902795935756:=()
def tw16915961985820311103:=()
def tw4350551153276834767:=()
def tw3512629860374930169:=()
def tw303924556092671166:=()
def tw2120920858414931512:=()
def tw8013791782566161998:=()
def tw13897386959527827386:=()
def tw17988869416448611840:=()
def tw2988295983629104182:=()
def tw2799467589377298638:=()
def tw15478384019627856175:=()
def tw15901639945720997180:=()
def tw9477165147675796976:=()
def tw8637926018320866301:=()
def tw5230754647309201643:=()
def tw142279347145733017:=()
def tw10891168214473103807:=()
def tw6737830070247447636:=()
def tw8498847012033092313:=()
def tw11582263223290157901:=()
def tw11759359432859452948:=()
def tw15822672830389315017:=()
def tw4533330274312869471:=()
def tw4178942970243308731:=()
def tw13097620423052657384:=()
def tw14448206747829162465:=()
def tw2583053472451740117:=()
def tw1468637725884569423:=()
def tw15712420196106669104:=()
def tw8862541193134488764:=()
def tw12551685616715342916:=()
def tw1807211518772189924:=()
def tw11789039821529091630:=()
def tw1625382362489269451:=()
def tw1992223214496415496:=()
def tw17877175633064881865:=()
def tw10089502709810945707:=()
def tw6531670826300931561:=()
def tw61293424023213866:=()
def tw8714670971290501361:=()
def tw6368421856853433767:=()
def tw11647514990058233923:=()
def tw15615842287256843696:=()
def tw5828889326225272117:=()
def tw15630064930277332319:=()
def tw11015445177457190240:=()
def tw17184227306390339843:=()
def tw482000149356637080:=()
def tw6739575836927964448:=()
def tw2858339204163950053:=()
def tw10169718297685808844:=()
def tw14946191130331246116:=()
def tw1840142734210068671:=()
def tw2274871753858299902:=()
def tw6298589886771387683:=()
def tw17020382951422685714:=()
def tw17517668205218372857:=()
def tw16227538103022937594:=()
def tw12526425036702796001:=()
def tw1932541617044512544:=()
def tw16820921376234385308:=()
def tw17840852173582797437:=()
def tw1668312016675252681:=()
def tw14808017960865902386:=()
def tw1030458547606989313:=()
def tw6149355617179770912:=()
def tw3535504715061143978:=()
def tw16814132671420006793:=()
def tw10219973304486933587:=()
def tw14667192910380078456:=()
def tw10483966131982876170:=()
def tw7488871344939392057:=()
def tw9915502487137718468:=()
def tw11054600885599363998:=()
def tw170211129105603496:=()
def tw2306839297052553059:=()
def tw11324090158249166933:=()
def tw12931386155647137581:=()
def tw13333902734840397135:=()
def tw2376644721219011240:=()
def tw5129335152962560741:=()
def tw2405500846970789250:=()
def tw16037795081188955979:=()
def tw4324597170181756753:=()
def tw17337312358899265368:=()
def tw18386601818280536836:=()
def tw3208387321531775450:=()
def tw17054273561708419540:=()
def tw2951219712240765869:=()
def tw11382554901028196713:=()
def tw13713595237827062661:=()
def tw13825400419882769176:=()
def tw8508277896934677510:=()
def tw11431811625846130169:=()
def tw9119514339957460157:=()
def tw6217576241394481948:=()
def tw8351432049424999150:=()
def tw1876885994291955654:=()
def tw1821385648590670186:=()
def tw3079501727738097057:=()
def tw13822806767912550497:=()
def tw12689299589828954582:=()
def tw4996513980339452628:=()
def tw4451043501026793690:=()
def tw2347247802830566700:=()
def tw4817509732203605948:=()
def tw11295555569106896466:=()
def tw4530335443439584932:=()
def tw6164841844164177176:=()
def tw17279400361066207201:=()
def tw16494088027482610369:=()
def tw602540775777571677:=()
def tw18392730416304086033:=()
def tw11511234973714538866:=()
def tw11289114105555681884:=()
def tw12048775522317251327:=()
def tw5756942161510840235:=()
def tw9186227103295566482:=()
def tw8786221552875914378:=()
def tw3964287803312041251:=()
def tw893571087166787462:=()
def tw5508721830593987177:=()
def tw13559779423109530552:=()
def tw17823411859231058241:=()
def tw15469716606604705384:=()
def tw15152522155801703752:=()
def tw11238214717978023214:=()
def tw16497691861064886265:=()
def tw6308473648121685461:=()
def tw7643725626476266575:=()
def tw9134054024982999885:=()
def tw6076958588685980950:=()
def tw8001713979070602172:=()
def tw9628303204149970966:=()
def tw1794783584954356459:=()
def tw18072102424935450981:=()
def tw9014851228734202899:=()
def tw2734862387482137871:=()
def tw7549121210239241790:=()
def tw17407976714956510581:=()
def tw2325416368431744843:=()
def tw16676698611847887759:=()
def tw18120156612601929064:=()
def tw17027736718555873514:=()
def tw13702891205727621760:=()
def tw3320957251832233137:=()
def tw11263296223336583736:=()
def tw11943056306544636172:=()
def tw670760712643652403:=()
def tw7010530904774899108:=()
def tw11280826173182599272:=()
def tw10792886123605411031:=()
def tw16881758090428836161:=()
def tw8580575106133855223:=()
def tw2667513597640762317:=()
def tw820152221054762147:=()
def tw6888606675481126737:=()
def tw12472119533280449352:=()
def tw15542806972262797387:=()
def tw12788136412294058171:=()
def tw4611438874061266988:=()
def tw4767091786413772912:=()
def tw4847144228769107161:=()
def tw11439052876294775765:=()
def tw9303773699073103676:=()
def tw10738791027443532022:=()
def tw7368226067268927221:=()
def tw17148985935889411020:=()
def tw15667047317919420704:=()
def tw6873812724347852106:=()
def tw16667138729035619718:=()
def tw8354147390496826004:=()
def tw6337415249347261087:=()
def tw9158105449520154436:=()
def tw12350254663118336971:=()
def tw6403105563996452847:=()
def tw11881765215038039295:=()
def tw3463150374192930109:=()
def tw2945161633362179599:=()
def tw5509006188723110505:=()
def tw9032551547045643529:=()
def tw3160306999833801830:=()
def tw5977282140398234626:=()
def tw8275407984575685138:=()
def tw14703589100122196714:=()
def tw18297817562391677313:=()
def tw10501090775480274438:=()
def tw2457600809433710348:=()
def tw3569507650322625690:=()
def tw8822756153882364560:=()
def tw13563752986726925601:=()
def tw11240186647155601396:=()
def tw13090523968673695989:=()
def tw18284377454975773904:=()
def tw10208843364913240671:=()
def tw6853440499365608690:=()
def tw14076234885622091721:=()
def tw14290912303824508308:=()
def tw31212758064801632:=()
def tw917334007419356649:=()
def tw7737412592203375253:=()
def tw9038829387209894237:=()
def tw4265092777251051989:=()
def tw6349728502799112874:=()
def tw12012474605386023141:=()
def tw14293728560158610996:=()
def tw15844243213327461559:=()
def tw4628146903761394584:=()
def tw5138441937648690709:=()
def tw14289604393624504772:=()
def tw13220975321741888617:=()
def tw3552574959856844987:=()
def tw10611721531374113597:=()
def tw9199664750640438460:=()
def tw827635412516071825:=()
def tw10532234066471405410:=()
def tw15825242917958135281:=()
def tw13503370990272458743:=()
def tw15710468782897009443:=()
def tw2222718034190996684:=()
def tw5555173054356792347:=()
end PySem.W.Fast
open PySem PySem.W PyProof.Rows
set_option Elab.async false
set_option maxRecDepth 100000 in
set_option maxHeartbeats 0 in
theorem PySem.Challenge.cw_holdback_k25_brooms_holds : PySem.Challenge.rw_holdback_k25_brooms.Holds := by
 w_on;o_law;k_head;(case hw=>w_witness2)
 k_fill
 refine L2.walk (l:=PySem.Challenge.rw_holdback_k25_brooms) rfl rfl (λw h Y=>PySem.W.kIn_of Y) ?F
 case F =>
  intro w mg fa h KX G hmg
  refine' L2.all_mk KX G hmg ?q0 ?q1 ?q2 ?q3 ?q4 ?q5 ?q6 ?q7 ?q8 ?q9 ?qa ?qb ?qc ?qd ?qe ?qf ?qg ?qh ?qi ?qj ?qk ?ql ?qm ?qn ?qo ?qp ?qq ?qr ?qs ?qt ?qu ?qv ?qw ?qx ?qy ?qz ?q10 ?q11 ?q12 ?q13 ?q14 ?q15 ?q16 ?q17 ?q18 ?q19 ?q1a ?q1b ?q1c ?q1d ?q1e ?q1f ?q1g ?q1h ?q1i ?q1j ?q1k ?q1l ?q1m ?q1n ?q1o ?q1p ?q1q ?q1r ?q1s ?q1t ?q1u ?q1v ?q1w ?q1x ?q1y ?q1z ?q20 ?q21 ?q22 ?q23 ?q24 ?q25 ?q26 ?q27 ?q28 ?q29 ?q2a ?q2b ?q2c ?q2d ?q2e ?q2f ?q2g ?q2h ?q2i ?q2j ?q2k ?q2l ?q2m ?q2n ?q2o ?q2p ?q2q ?q2r ?q2s ?q2t ?q2u ?q2v ?q2w ?q2x ?q2y ?q2z ?q30 ?q31 ?q32 ?q33 ?q34 ?q35 ?q36 ?q37 ?q38 ?q39 ?q3a ?q3b ?q3c ?q3d ?q3e ?q3f ?q3g ?q3h ?q3i ?q3j ?q3k ?q3l ?q3m ?q3n ?q3o ?q3p ?q3q ?q3r ?q3s ?q3t ?q3u ?q3v ?q3w ?q3x ?q3y ?q3z ?q40 ?q41 ?q42 ?q43 ?q44 ?q45 ?q46 ?q47 ?q48 ?q49 ?q4a ?q4b ?q4c ?q4d ?q4e ?q4f ?q4g ?q4h ?q4i ?q4j ?q4k ?q4l ?q4m ?q4n ?q4o ?q4p ?q4q ?q4r ?q4s ?q4t ?q4u ?q4v ?q4w ?q4x ?q4y ?q4z ?q50 ?q51 ?q52 ?q53 ?q54 ?q55 ?q56 ?q57 ?q58 ?q59 ?q5a ?q5b ?q5c ?q5d ?q5e ?q5f ?q5g ?q5h ?q5i ?q5j ?q5k ?q5l ?q5m ?q5n ?q5o ?q5p ?q5q ?q5r ?q5s ?q5t ?q5u ?q5v ?q5w ?q5x ?q5y ?q5z ?q60 ?q61 ?q62 ?q63 ?q64 ?q65 ?q66 ?q67 ?q68 ?q69 ?q6a ?q6b ?q6c ?q6d ?q6e ?q6f ?q6g ?q6h ?q6i ?q6j ?q6k ?q6l ?q6m ?q6n ?q6o ?q6p ?q6q ?q6r ?q6s ?q6t ?q6u ?q6v ?q6w ?q6x ?q6y ?q6z ?q70 ?q71 ?q72 ?q73 ?q74 ?q75 ?q76 ?q77 ?q78 ?q79 ?q7a ?q7b ?q7c ?q7d ?q7e ?q7f ?q7g ?q7h ?q7i ?q7j ?q7k
  (case q0=>k_is)
  (case q1=>k_is)
  (case q2=>k_is)
  (case q3=>k_is)
  (case q4=>k_is)
  (case q5=>k_is)
  (case q6=>k_is)
  (case q7=>k_is)
  (case q8=>k_is)
  (case q9=>k_is)
  (case qa=>k_is)
  (case qb=>k_is)
  (case qc=>k_is)
  (case qd=>k_is)
  (case qe=>k_is)
  (case qf=>k_is)
  (case qg=>k_is)
  (case qh=>k_is)
  (case qi=>k_is)
  (case qj=>k_is)
  (case qk=>k_is)
  (case ql=>k_is)
  (case qm=>k_is)
  (case qn=>k_is)
  (case qo=>k_is)
  (case qp=>k_is)
  (case qq=>k_is)
  (case qr=>k_is)
  (case qs=>k_is)
  (case qt=>k_is)
  (case qu=>k_is)
  (case qv=>k_is)
  (case qw=>k_is)
  (case qx=>k_is)
  (case qy=>k_is)
  (case qz=>k_is)
  (case q10=>k_is)
  (case q11=>k_is)
  (case q12=>k_is)
  (case q13=>k_is)
  (case q14=>k_is)
  (case q15=>k_is)
  (case q16=>k_is)
  (case q17=>k_is)
  (case q18=>k_is)
  (case q19=>k_is)
  (case q1a=>k_exc)
  (case q1b=>k_exc)
  (case q1c=>k_is)
  (case q1d=>k_is)
  (case q1e=>k_is)
  (case q1f=>k_is)
  (case q1g=>k_is)
  (case q1h=>k_is)
  (case q1i=>k_is)
  (case q1j=>k_is)
  (case q1k=>k_is)
  (case q1l=>k_is)
  (case q1m=>k_is)
  (case q1n=>k_is)
  (case q1o=>k_is)
  (case q1p=>k_is)
  (case q1q=>k_is)
  (case q1r=>k_is)
  (case q1s=>k_is)
  (case q1t=>k_is)
  (case q1u=>k_is)
  (case q1v=>k_is)
  (case q1w=>k_is)
  (case q1x=>k_is)
  (case q1y=>k_is)
  (case q1z=>k_is)
  (case q20=>k_is)
  (case q21=>k_is)
  (case q22=>k_is)
  (case q23=>k_is)
  (case q24=>k_is)
  (case q25=>k_is)
  (case q26=>k_is)
  (case q27=>k_is)
  (case q28=>k_is)
  (case q29=>k_is)
  (case q2a=>k_is)
  (case q2b=>k_is)
  (case q2c=>k_is)
  (case q2d=>k_is)
  (case q2e=>k_is)
  (case q2f=>k_is)
  (case q2g=>k_is)
  (case q2h=>k_is)
  (case q2i=>k_is)
  (case q2j=>k_is)
  (case q2k=>k_is)
  (case q2l=>k_is)
  (case q2m=>k_is)
  (case q2n=>k_is)
  (case q2o=>k_is)
  (case q2p=>k_is)
  (case q2q=>k_is)
  (case q2r=>k_is)
  (case q2s=>k_is)
  (case q2t=>k_is)
  (case q2u=>k_is)
  (case q2v=>k_is)
  (case q2w=>k_is)
  (case q2x=>k_is)
  (case q2y=>k_is)
  (case q2z=>k_is)
  (case q30=>k_is)
  (case q31=>k_is)
  (case q32=>k_is)
  (case q33=>k_is)
  (case q34=>k_is)
  (case q35=>k_is)
  (case q36=>k_is)
  (case q37=>k_is)
  (case q38=>k_is)
  (case q39=>k_is)
  (case q3a=>k_is)
  (case q3b=>k_is)
  (case q3c=>k_is)
  (case q3d=>k_is)
  (case q3e=>k_is)
  (case q3f=>k_is)
  (case q3g=>k_is)
  (case q3h=>k_is)
  (case q3i=>k_is)
  (case q3j=>k_is)
  (case q3k=>k_is)
  (case q3l=>k_is)
  (case q3m=>k_is)
  (case q3n=>k_is)
  (case q3o=>k_is)
  (case q3p=>k_is)
  (case q3q=>k_is)
  (case q3r=>k_is)
  (case q3s=>k_is)
  (case q3t=>k_is)
  (case q3u=>k_is)
  (case q3v=>k_is)
  (case q3w=>k_is)
  (case q3x=>k_is)
  (case q3y=>k_is)
  (case q3z=>k_is)
  (case q40=>k_is)
  (case q41=>k_is)
  (case q42=>k_is)
  (case q43=>k_is)
  (case q44=>k_is)
  (case q45=>k_is)
  (case q46=>k_is)
  (case q47=>k_is)
  (case q48=>k_is)
  (case q49=>k_is)
  (case q4a=>k_is)
  (case q4b=>k_is)
  (case q4c=>k_is)
  (case q4d=>k_is)
  (case q4e=>k_is)
  (case q4f=>k_is)
  (case q4g=>k_is)
  (case q4h=>k_is)
  (case q4i=>k_is)
  (case q4j=>k_is)
  (case q4k=>k_is)
  (case q4l=>k_is)
  (case q4m=>k_is)
  (case q4n=>k_is)
  (case q4o=>k_is)
  (case q4p=>k_is)
  (case q4q=>k_is)
  (case q4r=>k_is)
  (case q4s=>k_is)
  (case q4t=>k_is)
  (case q4u=>k_is)
  (case q4v=>k_is)
  (case q4w=>k_is)
  (case q4x=>k_is)
  (case q4y=>k_is)
  (case q4z=>k_is)
  (case q50=>k_is)
  (case q51=>k_is)
  (case q52=>k_is)
  (case q53=>k_is)
  (case q54=>k_is)
  (case q55=>k_is)
  (case q56=>k_is)
  (case q57=>k_is)
  (case q58=>k_is)
  (case q59=>k_is)
  (case q5a=>k_is)
  (case q5b=>k_is)
  (case q5c=>k_is)
  (case q5d=>k_is)
  (case q5e=>k_is)
  (case q5f=>k_is)
  (case q5g=>k_is)
  (case q5h=>k_is)
  (case q5i=>k_is)
  (case q5j=>k_is)
  (case q5k=>k_is)
  (case q5l=>k_is)
  (case q5m=>k_is)
  (case q5n=>k_is)
  (case q5o=>k_is)
  (case q5p=>k_is)
  (case q5q=>k_is)
  (case q5r=>k_is)
  (case q5s=>k_is)
  (case q5t=>k_is)
  (case q5u=>k_is)
  (case q5v=>k_is)
  (case q5w=>k_is)
  (case q5x=>k_is)
  (case q5y=>k_is)
  (case q5z=>k_is)
  (case q60=>k_is)
  (case q61=>k_is)
  (case q62=>k_is)
  (case q63=>k_is)
  (case q64=>k_is)
  (case q65=>k_is)
  (case q66=>k_is)
  (case q67=>k_is)
  (case q68=>k_is)
  (case q69=>k_is)
  (case q6a=>k_is)
  (case q6b=>k_is)
  (case q6c=>k_is)
  (case q6d=>k_is)
  (case q6e=>k_is)
  (case q6f=>k_is)
  (case q6g=>k_is)
  (case q6h=>k_is)
  (case q6i=>k_is)
  (case q6j=>k_is)
  (case q6k=>k_is)
  (case q6l=>k_is)
  (case q6m=>k_is)
  (case q6n=>k_is)
  (case q6o=>k_is)
  (case q6p=>k_is)
  (case q6q=>k_is)
  (case q6r=>k_is)
  (case q6s=>k_is)
  (case q6t=>k_is)
  (case q6u=>k_is)
  (case q6v=>k_is)
  (case q6w=>k_is)
  (case q6x=>k_is)
  (case q6y=>k_is)
  (case q6z=>k_is)
  (case q70=>k_is)
  (case q71=>k_is)
  (case q72=>k_is)
  (case q73=>k_is)
  (case q74=>k_is)
  (case q75=>k_is)
  (case q76=>k_is)
  (case q77=>k_is)
  (case q78=>k_is)
  (case q79=>k_is)
  (case q7a=>k_is)
  (case q7b=>k_is)
  (case q7c=>k_is)
  (case q7d=>k_is)
  (case q7e=>kit_is)
  (case q7f=>k_is)
  (case q7g=>k_is)
  (case q7h=>kit_is)
  (case q7i=>k_is)
  (case q7j=>k_is)
  (case q7k=>kit_is)
