import PyProof.Rows.All
import Wide.All
import OpenK.AllK
import Wide.FinOn
import Lean
import PyProof.EqAt
import PyProof.EqKinds
import PyProof.TupleCall
import PyProof.SetScanFacts
import PyProof.Rows.SetFrom
import PyProof.Rows.SortWalk
import PyProof.CollectWalk
import PyProof.DictWalks
import PySem.Challenge.RW_holdback_k41_names_made
set_option Elab.async false
set_option linter.all false
set_option maxRecDepth 100000
namespace L2
open PySem PySem.Spec PyProof.Rows
abbrev Key:=Sum Int Str
def zta:Key->Value->Bool
 | .inl k,v=>Value.isInt k v
 | .inr x,v=>Value.isStrOf x v
def keyH(w:World):Key->Int
 | .inl k=>hashInt k
 | .inr x=>hashStr w x
theorem zcx:∀ {k:Key} {v:Value},zta k v=true->(∃ i t,k=Sum.inl i/\v=Value.int i t)\/(∃ x t,k=Sum.inr x/\v=Value.str x t)
  | .inl i,v,h=>by
    obtain⟨t,e⟩:=Value.isInt_shape (k:=i) (v:=v) h
    exact .inl ⟨i,t,rfl,e⟩
  | .inr x,v,h=>by
    obtain⟨t,e⟩:=Value.isStrOf_shape (x:=x) (v:=v) h
    exact .inr ⟨x,t,rfl,e⟩
theorem zt5(i:Int)(t:Tok):zta (.inl i) (.int i t)=true:=by simp[zta,Value.isInt]
theorem zt6(x:Str)(t:Tok):zta (.inr x) (.str x t)=true:=by simp[zta,Value.isStrOf]
theorem zz5(a b:Int):decide ((Sum.inl a:Key)=Sum.inl b)=(a == b):=by
 by_cases e:a=b
 ·subst e;simp
 ·have h:¬ (Sum.inl a:Key)=Sum.inl b:=λq=>e (Sum.inl.inj q)
  rw[decide_eq_false h]
  exact(beq_eq_false_iff_ne.mpr e).symm
theorem zz6(a b:Str):decide ((Sum.inr a:Key)=Sum.inr b)=decide (a=b):=by
 by_cases e:a=b
 ·subst e;simp
 ·have h:¬ (Sum.inr a:Key)=Sum.inr b:=λq=>e (Sum.inr.inj q)
  rw[decide_eq_false h,decide_eq_false e]
theorem zz7(a:Int)(b:Str):decide ((Sum.inl a:Key)=Sum.inr b)=false:=decide_eq_false (λq=>nomatch q)
theorem zz8(a:Str)(b:Int):decide ((Sum.inr a:Key)=Sum.inl b)=false:=decide_eq_false (λq=>nomatch q)
def zdq (prog:Program) (w:World):PySem.KeyKind prog w Key where
  is:=zta
  hash:=keyH w
  inj := λv a b ha hb=>by
    rcases zcx ha with⟨i,t,rfl,rfl⟩ | ⟨x,t,rfl,rfl⟩
    · rcases zcx hb with⟨j,u,rfl,e⟩ | ⟨y,u,rfl,e⟩
      ·injection e with e1 _;rw[e1]
      ·exact nomatch e
    · rcases zcx hb with⟨j,u,rfl,e⟩ | ⟨y,u,rfl,e⟩
      ·exact nomatch e
      ·injection e with e1 _;rw[e1]
  byValue:=λk v h=>by
    rcases zcx h with⟨i,t,rfl,rfl⟩ | ⟨x,t,rfl,rfl⟩<;>rfl
  pyHash:=λhv h=>by
    rcases zcx hv with⟨i,t,rfl,rfl⟩ | ⟨x,t,rfl,rfl⟩
    ·exact wpAny_pyHash_int h
    ·exact wpAny_pyHash_str h
  eqBool:=λhu hv h=>by
    rcases zcx hu with⟨i,t,rfl,rfl⟩ | ⟨x,t,rfl,rfl⟩
    · rcases zcx hv with⟨j,u,rfl,rfl⟩ | ⟨y,u,rfl,rfl⟩
      ·rw[zz5]at h;exact wpAny_eqBool_int h
      ·rw[zz7]at h;exact SeqAt.EqAt.int_str i t y u _ _ _ _ h
    · rcases zcx hv with⟨j,u,rfl,rfl⟩ | ⟨y,u,rfl,rfl⟩
      ·rw[zz8]at h;exact SeqAt.EqAt.str_int x t j u _ _ _ _ h
      ·rw[zz6]at h;exact wpAny_eqBool_str h
  «strs» :=λk x t v h=>by
    rcases zcx h with⟨i,u,rfl,e⟩ | ⟨y,u,rfl,e⟩
    ·exact nomatch e
    · injection e with e1 _
      subst e1
      cases v<;>rfl
theorem zro(prog:Program)(w:World)(i:Int)(t:Tok):(zdq prog w).is (.inl i) (.int i t)=true:=zt5 i t
theorem zrp(prog:Program)(w:World)(x:Str)(t:Tok):(zdq prog w).is (.inr x) (.str x t)=true:=zt6 x t
end L2
namespace L2
open PySem PySem.Spec PyProof.Rows
inductive V where
 | non | bl (b:Bool) | int (i:Int) | str (x:Str) | byt (b:Array UInt8) | flt (b:UInt64) | ref (a:Addr) | ty (n:String)
 deriving DecidableEq
def RelV:V->Value->Prop
 | .non,u=>u=Value.none
 | .bl b,u=>u=Value.bool b
 | .int i,u=>∃ t,u=Value.int i t
 | .str x,u=>∃ t,u=Value.str x t
 | .byt b,u=>∃ t,u=Value.bytes b t
 | .flt b,u=>∃ t,u=Value.float b t
 | .ref a,u=>u=Value.ref a
 | .ty n,u=>u=Value.type n
abbrev Vals:List V->List Value->Prop:=Paired RelV
theorem Vals.length{xs:List V}{us:List Value}(r:Vals xs us):xs.length=us.length:=Paired.length r
theorem Vals.get:∀ {xs:List V} {us:List Value} {i:Nat} {x:V},Vals xs us->xs[i]? =some x->∃ u,us[i]? =some u/\RelV x u
  | _,_,_,_,.nil,e=>by simp at e
  | _,_,0,_,.cons r _,e=>by simp at e;subst e;exact⟨_,rfl,r⟩
  | _,_,i+1,x,.cons _ t,e=>by
    obtain⟨u,h1,h2⟩:=Vals.get (i:=i) (x:=x) t (by simpa using e)
    exact⟨u,by simpa using h1,h2⟩
theorem Vals.set{x:V}{u:Value}(r:RelV x u):∀ {xs:List V} {us:List Value} (i:Nat),Vals xs us->Vals (xs.set i x) (us.set i u)
 | _,_,_,.nil=>.nil
 | _,_,0,.cons _ t=>.cons r t
 | _,_,i+1,.cons q t=>.cons q (Vals.set r i t)
theorem Vals.append:∀ {xs ys:List V} {us ws:List Value},Vals xs us->Vals ys ws->Vals (xs++ys) (us++ws)
 | _,_,_,_,.nil,s=>s
 | _,_,_,_,.cons r t,s=>.cons r (Vals.append t s)
theorem Vals.take:∀ {xs:List V} {us:List Value} (n:Nat),Vals xs us->Vals (xs.take n) (us.take n)
 | _,_,0,_=>.nil
 | _,_,_+1,.nil=>.nil
 | _,_,n+1,.cons r t=>.cons r (Vals.take n t)
theorem Vals.drop:∀ {xs:List V} {us:List Value} (n:Nat),Vals xs us->Vals (xs.drop n) (us.drop n)
 | _,_,0,r=>r
 | _,_,_+1,.nil=>.nil
 | _,_,n+1,.cons _ t=>Vals.drop n t
theorem Vals.none_of:∀ {xs:List V} {us:List Value} {i:Nat},Vals xs us->xs[i]? =none->us[i]? =none:=λ{xs us i} r e=>by
 have h1:=r.length
 have h2:xs.length<=i:=List.getElem?_eq_none_iff.mp e
 exact List.getElem?_eq_none_iff.mpr (by omega)
def RelO:Option V->Option Value->Prop
 | some v,some u=>RelV v u
 | none,none=>True
 | _,_=>False
def KV{κ :Type}:List (κ × V)->List (κ × Value)->Prop:=Paired λ(p: κ × V) (q: κ × Value)=>p.1=q.1/\RelV p.2 q.2
def kV:Key->V
 | .inl i=>.int i
 | .inr x=>.str x
inductive HO where
 /-- a list -/
 | lst (xs:List V)
 /-- a tuple (never changes) -/
 | tup (xs:List V)
 /-- a dict whose keys are ints and texts;one whose keys are tuples of ints and texts (the empty one is both) -/
 | dK (kvs:List (Key × V)) | dT (kvs:List (List Key × V))
 /-- a set of ints: its members,its size -/
 | set (S:Int->Bool) (n:Nat)
 /-- an instance of the class at C,its dict at dx,its attributes -/
 | ins (C dx:Addr) (fs:List (Str × V))
 /-- the dict of the instance at x -/
 | own (x:Addr)
 /-- the dict of an exception -/
 | xd (fs:List (Str × V))
 /-- a bound method,f of x -/
 | met (f x:Addr)
 /-- a range object lo,lo+1,.. below hi -/
 | rng (lo hi:Int)
 /-- a thing that is known to the object (the script;a dict while a loop walks it): read,never written while it is so -/
 | frz (o:Obj) (u:HO)
 /-- a code object's table -/
 | tbl (ps:Array Value)
 /-- any other thing,by what is true of its one object (a def of one's own: SetO a S n:=HO.ext λh=>..) -/
 | ext (φ :Heap->Prop)
abbrev Hp:=Addr->Option HO
def upd(H:Hp)(a:Addr)(o:HO):Hp:=λb=>if b=a then some o else H b
theorem zac{H:Hp}{a:Addr}{o:HO}:upd H a o a=some o:=by unfold upd;rw[if_pos rfl]
theorem zah{H:Hp}{a b:Addr}{o:HO}(h:b≠a):upd H a o b=H b:=by unfold upd;rw[if_neg h]
theorem zf9{H:Hp}{a:Addr}{o u:HO}:upd (upd H a o) a u=upd H a u:=by
 funext b;unfold upd;split<;>rfl
theorem ze6{H:Hp}{a b:Addr}{o u:HO}(h:H a=some o)(h':H b=some u)(d:o≠u):a≠b:=by
 intro e;subst e;rw[h]at h';exact d (Option.some.inj h')
theorem zak{H:Hp}{a b:Addr}{o:HO}(h:H a=some o)(h':H b=none):a≠b:=by
 intro e;subst e;rw[h]at h';cases h'
section
variable(P:Program)(w:World)
def ObjOk(H:Hp)(h:Heap)(a:Addr):HO->Prop
 | .lst xs=>xs.length<=sizeLine/\∃ (its:List Value) (n:Nat),Vals xs its/\h.get? a=some { cls:=.type "list",data:=.seq its.toArray n }
 | .tup xs=>xs.length<=sizeLine/\∃ its:List Value,Vals xs its/\IsTup h a its.toArray
 | .dK kvs=>kvs.length<=sizeLine/\(a == sysModules)=false/\∃ vs,KV kvs vs/\h.DictOf (zdq P w) a vs
 | .dT kvs=>kvs.length<=sizeLine/\(a == sysModules)=false/\∃ xs:List (List Key × Addr × Value),
   Paired (λ(p:List Key × V) (q:List Key × Addr × Value)=>p.1=q.1/\H q.2.1=some (.tup (p.1.map kV))/\RelV p.2 q.2.2) kvs xs ∧
   ∃ o es ep,h.get? a=some o/\o.ExactDict/\o.data=.dict es ep/\es.toList=xs.map (entryOfKey (tupleKind (zdq P w)))/\(xs.map (·.1)).Nodup
 | .set S n=>h.SetOf (intKind P w) a S n
 | .ins C dx fs=>H dx=some (.own a)/\fs.length<=1000/\dx≠a/\h.get? a=some (PySem.W.instObj C dx) ∧
   ∃ mA,h.Ns1 dx mA/\(∀ f,RelO (fs.lookup f) (mA f))/\PySem.Within mA (fs.map (·.1))
 | .own _=>∃ o,h.get? a=some o
 | .xd fs=>∃ mA,h.Ns1 a mA/\∀ f,RelO (fs.lookup f) (mA f)
 | .rng lo hi=>∃ t u v,h.get? a=some { cls:=.type "range",data:=.fields #[.int lo t,.int hi u,.int 1 v] }
 | .frz o u=>h.get? a=some o/\ObjOk H h a u
 | .tbl ps=>h.get? a=some { cls:=.none,data:=.fields ps }
 | .met f x=>h.get? a=some (PySem.W.methodObj (.ref f) (.ref x))
 | .ext φ => φ h/\(∃ o,h.get? a=some o)/\∀ h1 h2:Heap,φ h1->(∀ o,h1.get? a=some o->h2.get? a=some o)-> φ h2
def HOk(H:Hp)(h:Heap):Prop:=∀ a o,H a=some o->ObjOk P w H h a o
end
section
variable{P:Program}{w:World}{H H':Hp}{h h':Heap}{a:Addr}{o:HO}
theorem ObjOk.lt(x:ObjOk P w H h a o):a<h.objs.size:=by
 cases o with
 | lst xs=>obtain⟨_,_,_,_,e⟩:=x;exact Heap.lt_size e
 | tup xs=>obtain⟨_,_,_,p⟩:=x;exact p.lt
 | dK kvs=>obtain⟨_,_,_,_,o,_,_,e,_⟩:=x;exact Heap.lt_size e
 | dT kvs=>obtain⟨_,_,_,_,o,_,_,e,_⟩:=x;exact Heap.lt_size e
 | set S n=>obtain⟨o,_,_,_,e,_⟩:=x;exact Heap.lt_size e
 | ins C dx fs=>obtain⟨_,_,_,e,_⟩:=x;exact Heap.lt_size e
 | own y=>obtain⟨_,e⟩:=x;exact Heap.lt_size e
 | xd fs=>obtain⟨_,⟨_,_,_,e,_⟩,_⟩:=x;exact Heap.lt_size e
 | rng lo hi=>obtain⟨_,_,_,e⟩:=x;exact Heap.lt_size e
 | frz ob u=>obtain⟨e,_⟩:=x;exact Heap.lt_size e
 | tbl ps=>exact Heap.lt_size (show h.get? a=some _ from x)
 | met f y=>exact Heap.lt_size (show h.get? a=some _ from x)
 | ext φ =>obtain⟨_,⟨_,e⟩,_⟩:=x;exact Heap.lt_size e
theorem Paired.mapP{α β :Type}{F G: α -> β ->Prop}:∀ {l₁:List α} {l₂:List β},Paired F l₁ l₂->(∀ a b,F a b->G a b)->Paired G l₁ l₂
 | _,_,.nil,_=>.nil
 | _,_,.cons r t,f=>.cons (f _ _ r) (Paired.mapP t f)
theorem ObjOk.stay(x:ObjOk P w H h a o)(k:∀ b u,(b=a\/H b=some (.own a))->h.get? b=some u->h'.get? b=some u)
    (ho:∀ b,H b=some (.own a)->H' b=some (.own a)) (ht:∀ b xs,H b=some (.tup xs)->H' b=some (.tup xs)):ObjOk P w H' h' a o:=by
  induction o with
  | lst xs=>obtain⟨z,its,n,r,e⟩:=x;exact⟨z,its,n,r,k _ _ (.inl rfl) e⟩
  | tup xs=>obtain⟨z,its,r,ob,e,c⟩:=x;exact⟨z,its,r,ob,k _ _ (.inl rfl) e,c⟩
  | dK kvs=>obtain⟨z,y,vs,r,ob,es,ep,e,c⟩:=x;exact⟨z,y,vs,r,ob,es,ep,k _ _ (.inl rfl) e,c⟩
  | dT kvs =>
    obtain⟨z,y,xs,r,ob,es,ep,e,c⟩:=x
    exact⟨z,y,xs,Paired.mapP r λp q z=>⟨z.1,ht _ _ z.2.1,z.2.2⟩,ob,es,ep,k _ _ (.inl rfl) e,c⟩
  | set S n=>obtain⟨ob,es,ep,t,e,c⟩:=x;exact⟨ob,es,ep,t,k _ _ (.inl rfl) e,c⟩
  | ins C dx fs =>
    obtain⟨d,z,ne,e,mA,⟨od,es,ep,e2,c⟩,r⟩:=x
    exact⟨ho _ d,z,ne,k _ _ (.inl rfl) e,mA,⟨od,es,ep,k _ _ (.inr d) e2,c⟩,r⟩
  | own y=>obtain⟨ob,e⟩:=x;exact⟨ob,k _ _ (.inl rfl) e⟩
  | xd fs=>obtain⟨mA,⟨od,es,ep,e,c⟩,r⟩:=x;exact⟨mA,⟨od,es,ep,k _ _ (.inl rfl) e,c⟩,r⟩
  | rng lo hi=>obtain⟨t,u,v,e⟩:=x;exact⟨t,u,v,k _ _ (.inl rfl) e⟩
  | frz ob u ih=>obtain⟨e,q⟩:=x;exact⟨k _ _ (.inl rfl) e,ih q⟩
  | tbl ps =>
    have e:h.get? a=some { cls:=.none,data:=.fields ps }:=x
    show h'.get? a=some { cls:=.none,data:=.fields ps }
    exact k a _ (.inl rfl) e
  | met f y =>
    have e:h.get? a=some (PySem.W.methodObj (.ref f) (.ref y)):=x
    show h'.get? a=some (PySem.W.methodObj (.ref f) (.ref y))
    exact k a _ (.inl rfl) e
  | ext φ =>obtain⟨p,⟨o,e⟩,st⟩:=x;exact⟨st _ _ p λo q=>k _ _ (.inl rfl) q,⟨o,k _ _ (.inl rfl) e⟩,st⟩
theorem HOk.lt(x:HOk P w H h)(e:H a=some o):a<h.objs.size:=(x a o e).lt
theorem HOk.fresh(x:HOk P w H h)(e:h.objs.size<=a):H a=none:=by
 cases q:H a with
 | none=>rfl
 | some u=>exact absurd (Nat.lt_of_lt_of_le (x.lt q) e) (Nat.lt_irrefl _)
theorem HOk.kept(x:HOk P w H h)(k:∀ b u,h.get? b=some u->h'.get? b=some u):HOk P w H h':=λa o e =>
 (x a o e).stay (λb u _ q=>k b u q) (λ_ q=>q) λ_ _ q=>q
theorem HOk.laid(x:HOk P w H h)(k:∀ b u,h.get? b=some u->h'.get? b=some u)(hp:h.objs.size<=a)(new:ObjOk P w (upd H a o) h' a o):HOk P w (upd H a o) h':=λb u e=>by
 have hn:=x.fresh hp
 by_cases hb:b=a
 ·subst hb;rw[zac]at e;cases e;exact new
 ·rw[zah hb]at e
  exact(x b u e).stay (λc v _ q=>k c v q) (λc q=>by rw[zah (zak q hn)];exact q) λc xs q=>by rw[zah (zak q hn)];exact q
end
def Rd(H:Hp)(a:Addr)(u:HO):Prop:=H a=some u\/∃ o,H a=some (.frz o u)
theorem Rd.of{H:Hp}{a:Addr}{u:HO}(h:H a=some u):Rd H a u:=.inl h
theorem Rd.ok{P:Program}{w:World}{H:Hp}{h:Heap}{a:Addr}{u:HO}(r:Rd H a u)(x:HOk P w H h):ObjOk P w H h a u:=by
 rcases r with r | ⟨o,r⟩
 ·exact x a u r
 ·obtain⟨_,q⟩:=x a _ r
  exact q
def Mut:Option HO->Prop
 | some (.lst _)=>True
 | some (.dK _)=>True
 | some (.dT _)=>True
 | some (.set _ _)=>True
 | some (.ins _ _ _)=>True
 | some (.ext _)=>True
 | _=>False
section
variable{P:Program}{w:World}{H:Hp}{h h':Heap}{x e:Addr}{o':HO}
theorem HOk.write (ok:HOk P w H h) (mu:Mut (H x)) (he:e=x\/H e=some (.own x)) (k:∀ b u,b≠e->h.get? b=some u->h'.get? b=some u) (heo:∃ u,h'.get? e=some u)
    (new:ObjOk P w (upd H x o') h' x o'):HOk P w (upd H x o') h':=λb u q=>by
  have nown:∀ c y,H c=some (.own y)->c≠x:=λc y r z=>by subst z;rw[r]at mu;exact mu
  have ntup:∀ c xs,H c=some (.tup xs)->c≠x:=λc xs r z=>by subst z;rw[r]at mu;exact mu
  by_cases hb:b=x
  ·subst hb;rw[zac]at q;cases q;exact new
  · rw [zah hb]at q
    by_cases hbe:b=e
    · have q':H b=some (.own x):=by
        rcases he with z | z
        ·exact absurd (hbe.trans z) hb
        ·rw[hbe];exact z
      rw[q]at q';cases q'
      obtain⟨v,hv⟩:=heo
      exact⟨v,by rw[hbe];exact hv⟩
    · refine(ok b u q).stay (λc v hc r=>k c v ?_ r) (λc r=>by rw[zah (nown c b r)];exact r) λc xs r=>by rw[zah (ntup c xs r)];exact r
      rcases hc with rfl | hc
      ·exact hbe
      · rintro rfl
        rcases he with z | z
        ·exact nown c b hc z
        ·rw[hc]at z;cases z;exact hb rfl
end
structure Un(fs ex:List Addr)(H H':Hp)(h h':Heap):Prop where
 keep:∀ b o,h.get? b=some o->H b=none->b∉fs->b∉ex->h'.get? b=some o
 slot:∀ b o,h.get? b=some o->H b=none->b∈fs->b∉ex->∃ sl,h'.get? b=some { o with slots:=sl }
 free:∀ b o,h.get? b=some o->H b=none->b∉ex->H' b=none
 there:∀ b o,h.get? b=some o->b∉ex->∃ o',h'.get? b=some o'
 tups:∀ b xs,H b=some (.tup xs)->H' b=some (.tup xs)
 frzs:∀ b o u,H b=some (.frz o u)->H' b=some (.frz o u)
 tbls:∀ b ps,H b=some (.tbl ps)->∃ more,H' b=some (.tbl (ps++more))
section
variable{fs fs' ex ex':List Addr}{H H1 H2:Hp}{h h1 h2 h':Heap}{a x e:Addr}{o:HO}
theorem Un.any(u:Un fs ex H H1 h h1){b:Addr}{ob:Obj}(q:h.get? b=some ob)(n:H b=none)(hx:b∉ex):∃ sl,h1.get? b=some { ob with slots:=sl }:=by
 by_cases hb:b∈fs
 ·exact u.slot b ob q n hb hx
 ·exact⟨ob.slots,u.keep b ob q n hb hx⟩
theorem Un.trans(a:Un fs ex H H1 h h1)(b:Un fs ex H1 H2 h1 h2):Un fs ex H H2 h h2 where
 keep:=λc ob q n hc hx=>b.keep c ob (a.keep c ob q n hc hx) (a.free c ob q n hx) hc hx
 slot:=λc ob q n hc hx=>by
  obtain⟨sl,e1⟩:=a.slot c ob q n hc hx
  obtain⟨sl',e2⟩:=b.slot c _ e1 (a.free c ob q n hx) hc hx
  exact⟨sl',e2⟩
 free:=λc ob q n hx=>by
  obtain⟨o',e1⟩:=a.there c ob q hx
  exact b.free c o' e1 (a.free c ob q n hx) hx
 there:=λc ob q hx=>by
  obtain⟨o',e1⟩:=a.there c ob q hx
  exact b.there c o' e1 hx
 tups:=λc xs q=>b.tups c xs (a.tups c xs q)
 frzs:=λc ob xs q=>b.frzs c ob xs (a.frzs c ob xs q)
 tbls:=λc ps q=>by
  obtain⟨m1,e1⟩:=a.tbls c ps q
  obtain⟨m2,e2⟩:=b.tbls c _ e1
  exact⟨m1++m2,by rw[e2,Array.append_assoc]⟩
theorem Un.kept(k:∀ b u,h.get? b=some u->h'.get? b=some u):Un fs ex H H h h' :=
 ⟨λb ob q _ _ _=>k b ob q,λb ob q _ _ _=>⟨ob.slots,k b ob q⟩,λ_ _ _ n _=>n,λb ob q _=>⟨ob,k b ob q⟩,λ_ _ q=>q,λ_ _ _ q=>q,λ_ ps q=>⟨#[],by rw[q];simp⟩⟩
theorem Un.refl:Un fs ex H H h h:=Un.kept λ_ _ q=>q
theorem Un.laid(k:∀ b u,h.get? b=some u->h'.get? b=some u)(hp:h.objs.size<=a)(hn:H a=none):Un fs ex H (upd H a o) h h' where
 keep:=λb u q _ _ _=>k b u q
 slot:=λb u q _ _ _=>⟨u.slots,k b u q⟩
 free:=λb u q n _=>by rw[zah (Nat.ne_of_lt (Nat.lt_of_lt_of_le (Heap.lt_size q) hp))];exact n
 there:=λb u q _=>⟨u,k b u q⟩
 tups:=λb xs q=>by rw[zah (zak q hn)];exact q
 frzs:=λb u xs q=>by rw[zah (zak q hn)];exact q
 tbls:=λb ps q=>⟨#[],by rw[zah (zak q hn),q];simp⟩
theorem Un.write(mu:Mut (H x))(he:e=x\/H e=some (.own x))(k:∀ b u,b≠e->h.get? b=some u->h'.get? b=some u)(heo:∃ u,h'.get? e=some u):Un fs ex H (upd H x o) h h':=by
 have hx:∀ b,H b=none->b≠x:=λb n z=>by subst z;rw[n]at mu;exact mu
 have hb:∀ b,H b=none->b≠e:=λb n z=>by
  subst z
  rcases he with r | r
  ·exact hx b n r
  ·rw[n]at r;cases r
 have hm:∀ b u,H b=some u->¬ Mut (some u)->b≠x:=λb u q nm z=>by subst z;rw[q]at mu;exact nm mu
 refine⟨λb u q n _ _=>k b u (hb b n) q,λb u q n _ _=>⟨u.slots,k b u (hb b n) q⟩,λb u q n _=>by rw[zah (hx b n)];exact n,λb u q _=> ?_,
  λb xs q=>by rw[zah (hm b _ q λz=>z)];exact q,λb u xs q=>by rw[zah (hm b _ q λz=>z)];exact q,λb ps q=>⟨#[],by rw[zah (hm b _ q λz=>z),q];simp⟩⟩
 by_cases hbe:b=e
 ·subst hbe;exact heo
 ·exact⟨u,k b u hbe q⟩
theorem Un.mono(u:Un fs ex H H1 h h1)(hs:∀ b∈fs,b∈fs')(hx:∀ b∈ex,b∈ex'):Un fs' ex' H H1 h h1 :=
 ⟨λb ob q n hb he=>u.keep b ob q n (λz=>hb (hs b z)) λz=>he (hx b z),λ_ _ q n _ he=>u.any q n λz=>he (hx _ z),λb ob q n he=>u.free b ob q n λz=>he (hx b z),λb ob q he=>u.there b ob q λz=>he (hx b z),u.tups,u.frzs,u.tbls⟩
end
def trk(h:Heap)(H:Hp):List Addr:=(List.range h.objs.size).filter λa=>(H a).isSome
def hidT(h:Heap)(H:Hp):Heap:=PySem.W.hideAll h (trk h H)
theorem zt7(h:Heap)(H:Hp):(hidT h H).objs.size=h.objs.size:=PySem.W.hideAll_size _ _
theorem zvz{h:Heap}{H:Hp}{b:Addr}{o:Obj}(e:h.get? b=some o)(n:H b=none):(hidT h H).get? b=some o :=
 PySem.W.hideAll_get _ e λhm=>by
  have q:(H b).isSome=true:=(List.mem_filter.mp hm).2
  rw[n]at q;simp at q
theorem zxy{h:Heap}{H:Hp}{b:Addr}{o:Obj}(e:(hidT h H).get? b=some o):h.get? b=some o/\H b=none:=by
  have e':h.get? b=some o:=PySem.W.of_hideAll (trk h H) e
  refine⟨e',?_⟩
  cases q:H b with
  | none=>rfl
  | some x =>
    have hm:b∈trk h H:=List.mem_filter.mpr ⟨List.mem_range.mpr (Heap.lt_size e'),by simp[q]⟩
    have z:(hidT h H).get? b=none:=PySem.W.hideAll_none (trk h H) hm
    rw[z]at e;cases e
def zxz(g h:Heap)(L:Addr):List (Addr × Obj):=(List.range h.objs.size).filterMap λa=>if a=L\/(g.get? a).isSome=true then none else(h.get? a).map λo=>(a,o)
def rest(g h:Heap)(L d:Addr):List (Addr × Obj):=(zxz g h L).filter λp=>decide (p.1≠d)
end L2
namespace L2
open PySem PySem.Spec PyProof.Rows
structure Mod(K:PySem.W.Frag)(mg:Str->Option Value)(base:Heap):Prop where
 kin:K.In base
 glob:base.Ns mainGlobals mg
 blt:∃ mb,base.Ns builtinsNs mb/\∀ x:Str,x≠"__name__"->mb x=bootBuiltins x
 nolimit:base.NoLimit
structure Cx where
 prog:Program
 w:World
 K:PySem.W.Frag
 mg:Str->Option Value
 base:Heap
 A:Around
 N:List Str
 s₀:Shared
 H₀:Hp
 env:Env
 outer:List Env
 stack:List Env
 ex:List Addr
 fn:Str->Bool
 calm:Bool
 pn:List (Addr × Obj)
 xe:Value->Shared->Prop
def frs(l:List Env):List Addr:=l.filterMap (·.frame)
abbrev Cx.fs(X:Cx):List Addr:=frs X.outer
def Vis(sc:Scope)(x:Str):Prop:=sc.names.lookup x=some .local\/sc.names.lookup x=some .cell\/sc.names.lookup x=some .free
def Loc(sc:Scope)(x:Str):Prop:=sc.names.lookup x=some .local\/sc.names.lookup x=some .cell
def Look(env:Env)(h:Heap)(m:Str->Option Value)(x:Str)(u:Value):Prop :=
 (env.kindOf x=some .local/\m x=some u)\/((env.kindOf x=some .cell\/env.kindOf x=some .free)/\∃ c,env.cells.lookup x=some c/\h.IsCell c (some u))
structure Cx.Ok(X:Cx):Prop where
 mod:Mod X.K X.mg X.base
 kind:X.env.scope.kind=.function
 glob:X.env.globals=mainGlobals
 blt:X.env.builtins=builtinsNs
 above:X.s₀.heap.objs.size<=X.env.locals
 inj:∀ x y c,X.env.cells.lookup x=some c->X.env.cells.lookup y=some c->x=y
 has:∀ x,(X.env.kindOf x=some .cell\/X.env.kindOf x=some .free)->∃ c,X.env.cells.lookup x=some c
 cab:∀ x c,X.fn x=true->X.env.cells.lookup x=some c->X.s₀.heap.objs.size<=c
 hd:X.calm=true->X.A.handled=none
 frames:X.A.frames=some X.stack
 stk:X.stack=X.outer\/(X.stack=X.env::X.outer/\X.env.frame=some X.env.locals)
 exf:∀ b∈X.ex,b≠X.env.locals/\∀ x c,X.env.cells.lookup x=some c->c≠b
 bs:∀ b o,X.base.get? b=some o->X.s₀.heap.get? b=some o/\X.H₀ b=none
 bsz:X.base.objs.size<=X.s₀.heap.objs.size
 noex:∀ b o,X.base.get? b=some o->b∉X.ex
 exfs:∀ b∈X.ex,b∉X.fs
 funs:X.s₀.heap.FunFrames X.base X.outer
 frf:∀ b∈X.fs,X.H₀ b=none
structure Inv(X:Cx)(pins:List (Addr × Obj))(σ:List (Option V))(H:Hp)(s:Shared):Prop where
 ok:X.Ok
 os:s.os=X.s₀.os
 bare:AllBare s.gens
 base:Un X.fs X.ex X.H₀ H X.s₀.heap s.heap
 loc:∃ m,s.heap.Ns X.env.locals m/\∀ (i:Nat) (x:Str) (v:V),X.N[i]? =some x->σ[i]? =some (some v)->Vis X.env.scope x->∃ u,RelV v u/\Look X.env s.heap m x u
 cell:∀ x c,X.env.cells.lookup x=some c->∃ v,s.heap.IsCell c v
 free:H X.env.locals=none
 freeC:∀ x c,X.env.cells.lookup x=some c->H c=none
 pin:∀ p∈X.pn++pins,s.heap.get? p.1=some p.2/\H p.1=none/\p.1≠X.env.locals/\p.1∉X.fs/\∀ v,p.2.data≠.cell v
 hok:HOk X.prog X.w H s.heap
 len:σ.length=X.N.length
section
variable{X:Cx}{pins:List (Addr × Obj)}{σ:List (Option V)}{H H':Hp}{s:Shared}{h':Heap}
theorem Cx.Ok.nofr(ok:X.Ok){b:Addr}{o:Obj}(e:X.base.get? b=some o):b∉X.fs:=λhb=>by
 have:=(ok.funs.mem hb).1
 rw[e]at this;cases this
theorem Inv.bs(I:Inv X pins σ H s):∀ b o,X.base.get? b=some o->s.heap.get? b=some o/\H b=none:=λb o e =>
 ⟨I.base.keep b o (I.ok.bs b o e).1 (I.ok.bs b o e).2 (I.ok.nofr e) (I.ok.noex b o e),I.base.free b o (I.ok.bs b o e).1 (I.ok.bs b o e).2 (I.ok.noex b o e)⟩
theorem Inv.bk(I:Inv X pins σ H s):∀ b o,X.base.get? b=some o->s.heap.get? b=some o:=λb o e=>(I.bs b o e).1
theorem Inv.mod(I:Inv X pins σ H s):Mod X.K X.mg X.base:=I.ok.mod
theorem Inv.kIn(I:Inv X pins σ H s):X.K.In s.heap:=I.ok.mod.kin.keeps I.bk
theorem Inv.nolimit(I:Inv X pins σ H s):s.heap.NoLimit:=I.ok.mod.nolimit.keeps I.bk
theorem Inv.fr(I:Inv X pins σ H s):∃ m,Fr X.base X.env.locals s.heap m :=
 let ⟨m,hn,_⟩:=I.loc
 ⟨m,hn,I.bk,Nat.le_trans I.ok.bsz I.ok.above⟩
theorem Inv.lt(I:Inv X pins σ H s):X.env.locals<s.heap.objs.size:=let ⟨_,hn,_⟩:=I.loc;hn.lt
theorem Inv.sz(I:Inv X pins σ H s):X.s₀.heap.objs.size<=s.heap.objs.size:=Nat.le_trans I.ok.above (Nat.le_of_lt I.lt)
theorem Inv.nofs(I:Inv X pins σ H s){a:Addr}(h:s.heap.objs.size<=a):a∉X.fs:=λhb=>by
 obtain⟨_,o,ho,_⟩:=I.ok.funs.mem hb
 exact absurd (Nat.lt_of_lt_of_le (Heap.lt_size ho) (Nat.le_trans I.sz h)) (Nat.lt_irrefl _)
theorem Inv.cne(I:Inv X pins σ H s):∀ x c,X.env.cells.lookup x=some c->c≠X.env.locals:=λx c e z=>by
 obtain⟨v,o,ho,hd⟩:=I.cell x c e
 obtain⟨m,⟨o',es,ep,ho',hd',_⟩,_⟩:=I.loc
 rw[z,ho']at ho;cases ho;rw[hd']at hd;cases hd
theorem Inv.funs(I:Inv X pins σ H s):s.heap.FunFrames X.base X.outer:=by
  have all:∀ (l:List Env),(∀ b∈frs l,b∈X.fs)->X.s₀.heap.FunFrames X.base l->s.heap.FunFrames X.base l:=by
    intro l
    induction l with
    | nil=>intro _ _;trivial
    | cons env r ih =>
      intro hs hl
      obtain⟨hk,⟨L,o,hf,hn,ho,hd⟩,hr⟩:=hl
      have hL:L∈X.fs:=hs L (by unfold frs;rw[List.filterMap_cons,hf];exact List.mem_cons_self)
      obtain⟨sl,e⟩:=I.base.slot L o ho (I.ok.frf L hL) hL λz=>I.ok.exfs L z hL
      exact⟨hk,⟨L,_,hf,hn,e,hd⟩,ih (λb hb=>hs b (by unfold frs;rw[List.filterMap_cons,hf];exact List.mem_cons_of_mem _ hb)) hr⟩
  exact all X.outer (λ_ hb=>hb) I.ok.funs
theorem Inv.stack(I:Inv X pins σ H s):s.heap.FunFrames X.base X.stack:=by
 rcases I.ok.stk with e | ⟨e,hf⟩
 ·rw[e];exact I.funs
 ·rw[e]
  obtain⟨m,hn,_⟩:=I.loc
  refine .cons (by rw[I.ok.kind];decide) hf hn ?_ I.funs
  exact Heap.get?_none_of_le (Nat.le_trans I.ok.bsz I.ok.above)
theorem Inv.stkSub(I:Inv X pins σ H s):∀ b∈frs X.stack,b∈X.env.locals::X.fs:=λb hb=>by
 rcases I.ok.stk with e | ⟨e,hf⟩
 ·rw[e]at hb;exact List.mem_cons_of_mem _ hb
 ·rw[e]at hb
  unfold frs at hb
  rw[List.filterMap_cons,hf]at hb
  exact hb
theorem Inv.stkFree(I:Inv X pins σ H s):∀ b∈frs X.stack,H b=none:=λb hb=>by
 rcases List.mem_cons.mp (I.stkSub b hb)with e | hb
 ·rw[e];exact I.free
 ·obtain⟨_,o,ho,_⟩:=I.ok.funs.mem hb
  exact I.base.free b o ho (I.ok.frf b hb) λz=>I.ok.exfs b z hb
theorem Inv.step{g':Array GenState}{t':Nat}{d':Drawn}{ch:List Addr}(I:Inv X pins σ H s)
  (hch:∀ b∈ch,(b∈X.ex\/X.s₀.heap.objs.size<=b)/\b≠X.env.locals/\(∀ x c,X.env.cells.lookup x=some c->c≠b)/\∀ p∈X.pn++pins,p.1≠b)
  (keep:∀ b o,b≠X.env.locals->b∉X.fs->b∉ch->s.heap.get? b=some o->H b=none->h'.get? b=some o)
  (slot:∀ b o,b≠X.env.locals->b∈X.fs->b∉ch->s.heap.get? b=some o->H b=none->∃ sl,h'.get? b=some { o with slots:=sl }) (free:∀ b o,b∉ch->s.heap.get? b=some o->H b=none->H' b=none)
  (there:∀ b o,b∉ch->s.heap.get? b=some o->∃ o',h'.get? b=some o')
  (tups:∀ b xs,H b=some (.tup xs)->H' b=some (.tup xs)) (frzs:∀ b o u,H b=some (.frz o u)->H' b=some (.frz o u)) (tbls:∀ b ps,H b=some (.tbl ps)->∃ more,H' b=some (.tbl (ps++more)))
  (ns:∀ m,s.heap.Ns X.env.locals m->h'.Ns X.env.locals m) (hok:HOk X.prog X.w H' h') (hg:AllBare g') :
  Inv X pins σ H' { s with heap:=h',gens:=g',drawn:=d',toks:=t' }:=by
 have neL:∀ b o,X.s₀.heap.get? b=some o->b≠X.env.locals:=λb o e=>Nat.ne_of_lt (Nat.lt_of_lt_of_le (Heap.lt_size e) I.ok.above)
 have neC:∀ b o,X.s₀.heap.get? b=some o->b∉X.ex->b∉ch:=λb o e hx hb=>by
  rcases(hch b hb).1 with z | z
  ·exact hx z
  ·exact absurd (Nat.lt_of_lt_of_le (Heap.lt_size e) z) (Nat.lt_irrefl _)
 have cellK:∀ x c,X.env.cells.lookup x=some c->∀ v,s.heap.IsCell c v->h'.IsCell c v:=λx c e v ⟨o,ho,hd⟩=>by
  have nch:c∉ch:=λz=>(hch c z).2.2.1 x c e rfl
  by_cases hc:c∈X.fs
  ·obtain⟨sl,q⟩:=slot c o (I.cne x c e) hc nch ho (I.freeC x c e)
   exact⟨_,q,hd⟩
  ·exact⟨o,keep c o (I.cne x c e) hc nch ho (I.freeC x c e),hd⟩
 refine⟨I.ok,I.os,hg,⟨λb o e n hb hx=> ?_,λb o e n hb hx=> ?_,λb o e n hx=> ?_,λb o e hx=> ?_,λb xs e=>tups b xs (I.base.tups b xs e),λb o xs e=>frzs b o xs (I.base.frzs b o xs e),λb ps e=> ?_⟩,?_,λx c e=> ?_,?_,λx c e=> ?_,λp hp=> ?_,hok,I.len⟩
 ·exact keep b o (neL b o e) hb (neC b o e hx) (I.base.keep b o e n hb hx) (I.base.free b o e n hx)
 ·obtain⟨sl,e1⟩:=I.base.slot b o e n hb hx
  obtain⟨sl',e2⟩:=slot b _ (neL b o e) hb (neC b o e hx) e1 (I.base.free b o e n hx)
  exact⟨sl',e2⟩
 ·obtain⟨o',e1⟩:=I.base.there b o e hx
  exact free b o' (neC b o e hx) e1 (I.base.free b o e n hx)
 ·obtain⟨o',e1⟩:=I.base.there b o e hx
  exact there b o' (neC b o e hx) e1
 ·obtain⟨m1,e1⟩:=I.base.tbls b ps e
  obtain⟨m2,e2⟩:=tbls b _ e1
  exact⟨m1++m2,by rw[e2,Array.append_assoc]⟩
 ·obtain⟨m,hn,hl⟩:=I.loc
  refine⟨m,ns m hn,λi x v e1 e2 e3=> ?_⟩
  obtain⟨u,r,l⟩:=hl i x v e1 e2 e3
  refine⟨u,r,?_⟩
  rcases l with l | ⟨k,c,e,z⟩
  ·exact .inl l
  ·exact .inr ⟨k,c,e,cellK x c e _ z⟩
 ·obtain⟨v,z⟩:=I.cell x c e
  exact⟨v,cellK x c e v z⟩
 ·obtain⟨m,⟨o,_,_,ho,_⟩,_⟩:=I.loc
  exact free _ o (λz=>(hch _ z).2.1 rfl) ho I.free
 ·obtain⟨v,o,ho,hd⟩:=I.cell x c e
  exact free c o (λz=>(hch c z).2.2.1 x c e rfl) ho (I.freeC x c e)
 ·obtain⟨e,n,ne,nf,d⟩:=I.pin p hp
  have nch:p.1∉ch:=λz=>(hch p.1 z).2.2.2 p hp rfl
  exact⟨keep p.1 p.2 ne nf nch e n,free p.1 p.2 nch e n,ne,nf,d⟩
theorem Inv.un{t':Nat}(I:Inv X pins σ H s)(u:Un X.fs [] H H' s.heap h')(hok:HOk X.prog X.w H' h'):Inv X pins σ H' { s with heap:=h',toks:=t' }:=by
 obtain⟨m,⟨o,es,ep,ho,r⟩,_⟩:=id I.loc
 obtain⟨sl,hL⟩:=u.any ho I.free (by simp)
 exact I.step (g':=s.gens) (d':=s.drawn) (ch:=[]) (λ_ z=>nomatch z) (λb o _ hb _ e n=>u.keep b o e n hb (by simp)) (λb o _ hb _ e n=>u.slot b o e n hb (by simp)) (λb o _ e n=>u.free b o e n (by simp)) (λb o _ e=>u.there b o e (by simp)) u.tups u.frzs u.tbls (λm' hm=>by
  obtain⟨o',es',ep',ho',r'⟩:=hm
  rw[ho]at ho';cases ho'
  exact⟨_,es',ep',hL,r'⟩) hok I.bare
theorem Inv.call{g':Array GenState}{t':Nat}{d':Drawn}{ch:List Addr}(I:Inv X pins σ H s)(u:Un (frs X.stack) ch H H' s.heap h')(hok:HOk X.prog X.w H' h')(hg:AllBare g')
  (hch:∀ b∈ch,(b∈X.ex\/X.s₀.heap.objs.size<=b)/\b≠X.env.locals/\(∀ x c,X.env.cells.lookup x=some c->c≠b)/\∀ p∈X.pn++pins,p.1≠b) :
  Inv X pins σ H' { s with heap:=h',gens:=g',drawn:=d',toks:=t' }:=by
 obtain⟨m,⟨o,es,ep,ho,r⟩,_⟩:=id I.loc
 obtain⟨sl,hL⟩:=u.any ho I.free λz=>(hch _ z).2.1 rfl
 exact I.step (ch:=ch) hch (λb o hL hb hc e n=>u.keep b o e n (λz=>(List.mem_cons.mp (I.stkSub b z)).elim hL hb) hc) (λb o _ _ hc e n=>u.any e n hc) (λb o hc e n=>u.free b o e n hc) (λb o hc e=>u.there b o e hc) u.tups u.frzs u.tbls (λm' hm=>by
  obtain⟨o',es',ep',ho',r'⟩:=hm
  rw[ho]at ho';cases ho'
  exact⟨_,es',ep',hL,r'⟩) hok hg
theorem Inv.turned{t':Nat}{it:Addr}(I:Inv X pins σ H s)(k:∀ b o,b≠it->s.heap.get? b=some o->h'.get? b=some o)(hn:H it=none)(hL:it≠X.env.locals)
  (h1:it∈X.ex\/X.s₀.heap.objs.size<=it) (h2:∀ x c,X.env.cells.lookup x=some c->c≠it) (h3:∀ p∈X.pn++pins,p.1≠it):Inv X pins σ H { s with heap:=h',toks:=t' }:=by
 have nit:∀ b u,H b=some u->b≠it:=λb u e z=>by rw[z,hn]at e;cases e
 refine I.step (g':=s.gens) (d':=s.drawn) (ch:=[it]) (λb hb=> ?_) (λb o _ _ hc e _=>k b o (λz=>hc (by simp[z])) e) (λb o _ _ hc e _=>⟨o.slots,k b o (λz=>hc (by simp[z])) e⟩) (λ_ _ _ _ n=>n)
  (λb o hc e=>⟨o,k b o (λz=>hc (by simp[z])) e⟩) (λ_ _ e=>e) (λ_ _ _ e=>e) (λb ps e=>⟨#[],by rw[e];simp⟩) (λm hm=> ?_) (λb u e=> ?_) I.bare
 ·have e:b=it:=by simpa using hb
  subst e
  exact⟨h1,hL,h2,h3⟩
 ·obtain⟨o,es,ep,ho,r⟩:=hm
  exact⟨o,es,ep,k _ o (Ne.symm hL) ho,r⟩
 ·refine(I.hok b u e).stay (λc v hc q=>k c v ?_ q) (λ_ q=>q) λ_ _ q=>q
  rcases hc with z | z
  ·rw[z];exact nit b u e
  ·exact nit c _ z
theorem Inv.tok(I:Inv X pins σ H s)(t:Nat):Inv X pins σ H { s with toks:=t }:=I.un (h':=s.heap) (t':=t) Un.refl I.hok
theorem Inv.kept{t':Nat}(I:Inv X pins σ H s)(k:∀ b u,s.heap.get? b=some u->h'.get? b=some u):Inv X pins σ H { s with heap:=h',toks:=t' }:=I.un (Un.kept k) (I.hok.kept k)
theorem Inv.laid{a:Addr}{o:HO}{t':Nat}(I:Inv X pins σ H s)(k:∀ b u,s.heap.get? b=some u->h'.get? b=some u)(hp:s.heap.objs.size<=a)(new:ObjOk X.prog X.w (upd H a o) h' a o) :
  Inv X pins σ (upd H a o) { s with heap:=h',toks:=t' }:=I.un (Un.laid k hp (I.hok.fresh hp)) (I.hok.laid k hp new)
theorem Inv.write{x e:Addr}{o:HO}{t':Nat}(I:Inv X pins σ H s)(mu:Mut (H x))(he:e=x\/H e=some (.own x))(k:∀ b u,b≠e->s.heap.get? b=some u->h'.get? b=some u)(heo:∃ u,h'.get? e=some u)
  (new:ObjOk X.prog X.w (upd H x o) h' x o):Inv X pins σ (upd H x o) { s with heap:=h',toks:=t' }:=I.un (Un.write mu he k heo) (I.hok.write mu he k heo new)
theorem Inv.pins_of{pins':List (Addr × Obj)}(I:Inv X pins σ H s)(h:∀ p∈pins',s.heap.get? p.1=some p.2/\H p.1=none/\p.1≠X.env.locals/\p.1∉X.fs/\∀ v,p.2.data≠.cell v):Inv X pins' σ H s :=
 ⟨I.ok,I.os,I.bare,I.base,I.loc,I.cell,I.free,I.freeC,λp hp=>(List.mem_append.mp hp).elim (λz=>I.pin p (List.mem_append_left _ z)) (h p),I.hok,I.len⟩
theorem zow{N:List Str}(hN:N.Nodup){i j:Nat}{x:Str}(a:N[i]? =some x)(b:N[j]? =some x):i=j:=by
 obtain⟨h1,e1⟩:=List.getElem?_eq_some_iff.mp a
 obtain⟨h2,e2⟩:=List.getElem?_eq_some_iff.mp b
 exact(List.getElem_inj hN).mp (e1.trans e2.symm)
theorem zp4 {M:Model} {A:Around} {E:Value->Shared->Prop} {i:Nat} {x:Str} {v:V} {u:Value} {Q:Unit->Shared->Prop} (I:Inv X pins σ H s) (hN:X.N.Nodup) (hi:X.N[i]? =some x) (hx:Loc X.env.scope x) (r:RelV v u)
    (h:∀ s',Inv X pins (σ.set i (some v)) H s'->(∃ a,Heap.SameBut a s.heap s'.heap/\(a=X.env.locals\/X.env.cells.lookup x=some a))->Q () s') (hf:X.fn x=true\/X.env.scope.names.lookup x=some .local:=by first | exact .inl rfl | exact .inr rfl | assumption):wpAny M A (storeName X.env x u) Q E s:=by
  obtain⟨m,hn,hl⟩:=id I.loc
  have hcls:(X.env.scope.kind == .class || (X.env.scope.kind == .module && X.env.locals != X.env.globals))=false:=by rw[I.ok.kind];rfl
  have hiσ:i<σ.length:=by rw[I.len];exact(List.getElem?_eq_some_iff.mp hi).1
  have cne:=I.cne
  have tracked:∀ {a:Addr} {h':Heap},(∃ o,s.heap.get? a=some o/\H a=none)->Heap.SameBut a s.heap h'->HOk X.prog X.w H h':=λ{a h'} ha hs b ob e=>by
    obtain⟨_,_,hfree⟩:=ha
    refine(I.hok b ob e).stay (λc w' hc q=>(hs.2 c ?_).trans q) (λ_ q=>q) λ_ _ q=>q
    rintro rfl
    rcases hc with rfl | hc
    ·rw[hfree]at e;cases e
    ·rw[hfree]at hc;cases hc
  rcases hx with hk | hk
  · refine wpAny_storeName_local hk hn (λh' hn' hs=> ?_) hcls
    obtain⟨oL,_,_,hoL,_⟩:=id hn
    refine h _ ⟨I.ok,I.os,I.bare,⟨λb o e n hb hx=> ?_,λb o e n hb hx=> ?_,I.base.free,λb o e hx=> ?_,I.base.tups,I.base.frzs,I.base.tbls⟩,⟨_,hn',λj y v' e1 e2 e3=> ?_⟩,λy c e=> ?_,I.free,I.freeC,λp hp=> ?_,tracked ⟨oL,hoL,I.free⟩ hs,by simpa using I.len⟩ ⟨_,hs,.inl rfl⟩
    ·exact(hs.2 b (Nat.ne_of_lt (Nat.lt_of_lt_of_le (Heap.lt_size e) I.ok.above))).trans (I.base.keep b o e n hb hx)
    · obtain⟨sl,e1⟩:=I.base.slot b o e n hb hx
      exact⟨sl,(hs.2 b (Nat.ne_of_lt (Nat.lt_of_lt_of_le (Heap.lt_size e) I.ok.above))).trans e1⟩
    · obtain⟨o',e1⟩:=I.base.there b o e hx
      exact⟨o',(hs.2 b (Nat.ne_of_lt (Nat.lt_of_lt_of_le (Heap.lt_size e) I.ok.above))).trans e1⟩
    · by_cases hj:j=i
      · subst hj
        rw[hi]at e1;cases e1
        rw[List.getElem?_set_self hiσ]at e2
        cases e2
        exact⟨u,r,.inl ⟨hk,by simp⟩⟩
      · rw[List.getElem?_set_ne (Ne.symm hj)]at e2
        obtain⟨u',r',q⟩:=hl j y v' e1 e2 e3
        refine⟨u',r',?_⟩
        rcases q with⟨k,e⟩ | ⟨k,c,e,z⟩
        · refine .inl ⟨k,?_⟩
          have:y≠x:=λe=>hj (zow hN e1 (e ▸ hi))
          simp[this,e]
        ·exact .inr ⟨k,c,e,z.sameBut hs (cne y c e)⟩
    · obtain⟨w',z⟩:=I.cell y c e
      exact⟨w',z.sameBut hs (cne y c e)⟩
    · obtain⟨e,n,ne,nf,d⟩:=I.pin p hp
      exact⟨(hs.2 p.1 ne).trans e,n,ne,nf,d⟩
  · have hfn:X.fn x=true:=by
      rcases hf with z | z
      ·exact z
      ·rw[z]at hk;cases hk
    obtain⟨c,hc⟩:=I.ok.has x (.inl hk)
    obtain⟨w',z⟩:=I.cell x c hc
    refine wpAny_storeName_cell I.ok.kind hk hc z (λh' hc' hs=> ?_)
    obtain⟨oc,hoc,hocd⟩:=id z
    refine h { s with heap:=h' } ⟨I.ok,I.os,I.bare,⟨λb o e n hb hx=> ?_,λb o e n hb hx=> ?_,I.base.free,λb o e hx=> ?_,I.base.tups,I.base.frzs,I.base.tbls⟩,⟨m,hn.sameBut hs (Ne.symm (cne x c hc)),λj y v' e1 e2 e3=> ?_⟩,λy c' e=> ?_,I.free,I.freeC,λp hp=> ?_,tracked ⟨oc,hoc,I.freeC x c hc⟩ hs,by simpa using I.len⟩ ⟨c,hs,.inr hc⟩
    ·exact(hs.2 b (Nat.ne_of_lt (Nat.lt_of_lt_of_le (Heap.lt_size e) (I.ok.cab x c hfn hc)))).trans (I.base.keep b o e n hb hx)
    · obtain⟨sl,e1⟩:=I.base.slot b o e n hb hx
      exact⟨sl,(hs.2 b (Nat.ne_of_lt (Nat.lt_of_lt_of_le (Heap.lt_size e) (I.ok.cab x c hfn hc)))).trans e1⟩
    · obtain⟨o',e1⟩:=I.base.there b o e hx
      exact⟨o',(hs.2 b (Nat.ne_of_lt (Nat.lt_of_lt_of_le (Heap.lt_size e) (I.ok.cab x c hfn hc)))).trans e1⟩
    · by_cases hj:j=i
      · subst hj
        rw[hi]at e1;cases e1
        rw[List.getElem?_set_self hiσ]at e2
        cases e2
        exact⟨u,r,.inr ⟨.inl hk,c,hc,hc'⟩⟩
      · rw[List.getElem?_set_ne (Ne.symm hj)]at e2
        obtain⟨u',r',q⟩:=hl j y v' e1 e2 e3
        refine⟨u',r',?_⟩
        rcases q with q | ⟨k,c',e,z'⟩
        ·exact .inl q
        · refine .inr ⟨k,c',e,z'.sameBut hs ?_⟩
          rintro rfl
          exact hj (zow hN e1 (I.ok.inj _ _ _ e hc ▸ hi))
    · by_cases hcc:c'=c
      ·subst hcc;exact⟨_,hc'⟩
      · obtain⟨w2,z2⟩:=I.cell y c' e
        exact⟨w2,z2.sameBut hs hcc⟩
    · obtain⟨e,n,ne,nf,d⟩:=I.pin p hp
      refine⟨(hs.2 p.1 ?_).trans e,n,ne,nf,d⟩
      intro q
      rw[q,hoc]at e
      have q':oc=p.2:=Option.some.inj e
      exact d w' (by rw[<-q'];exact hocd)
theorem zmd{M:Model}{A:Around}{E:Value->Shared->Prop}{i:Nat}{x:Str}{v:V}{u:Value}{Q:Unit->Shared->Prop}(I:Inv X pins σ H s)(hN:X.N.Nodup)(hi:X.N[i]? =some x)(hx:Loc X.env.scope x)(r:RelV v u)
  (h:∀ s',Inv X pins (σ.set i (some v)) H s'->Q () s') (hf:X.fn x=true\/X.env.scope.names.lookup x=some .local:=by first | exact .inl rfl | exact .inr rfl | assumption):wpAny M A (storeName X.env x u) Q E s :=
 zp4 I hN hi hx r (λs' I' _=>h s' I') hf
theorem Inv.call'{s':Shared}{ch:List Addr}(I:Inv X pins σ H s)(ho:s'.os=s.os)(u:Un (frs X.stack) ch H H' s.heap s'.heap)(hok:HOk X.prog X.w H' s'.heap)(hg:AllBare s'.gens)
  (hch:∀ b∈ch,(b∈X.ex\/X.s₀.heap.objs.size<=b)/\b≠X.env.locals/\(∀ x c,X.env.cells.lookup x=some c->c≠b)/\∀ p∈X.pn++pins,p.1≠b):Inv X pins σ H' s':=by
 obtain⟨h',g',d',t',o'⟩:=s'
 have e:o'=s.os:=ho
 subst e
 exact I.call (g':=g') (t':=t') (d':=d') u hok hg hch
end
abbrev XK:=Value->Option Addr->Hp->Prop
abbrev St:=List (Option V)
abbrev VK:=V->Hp->Prop
abbrev TE:=St->Hp->VK->Prop
abbrev TT:=St->Hp->(Bool->Hp->Prop)->Prop
abbrev TA:=St->Hp->(List V->Hp->Prop)->Prop
structure Ends where
 nx:St->Hp->Prop
 rt:VK
 bk:St->Hp->Prop:=λ_ _=>False
 ct:St->Hp->Prop:=λ_ _=>False
abbrev TS:=Ends->St->Hp->Prop
def EP(X:Cx)(pins:List (Addr × Obj))(σ:St)(Q:VK)(u:Value)(s':Shared):Prop:=∃ v H',Inv X pins σ H' s'/\RelV v u/\Q v H'
def TP(X:Cx)(pins:List (Addr × Obj))(σ:St)(Q:Bool->Hp->Prop)(b:Bool)(s':Shared):Prop:=∃ H',Inv X pins σ H' s'/\Q b H'
def AP(X:Cx)(pins:List (Addr × Obj))(σ:St)(Q:List V->Hp->Prop)(us:List Value)(s':Shared):Prop:=∃ vs H',Inv X pins σ H' s'/\Vals vs us/\Q vs H'
def SP(X:Cx)(pins:List (Addr × Obj))(D:Ends)(f:Flow)(s':Shared):Prop :=
 match f with
 | .next=>∃ σ' H',Inv X pins σ' H' s'/\D.nx σ' H'
 | .brk=>∃ σ' H',Inv X pins σ' H' s'/\D.bk σ' H'
 | .cont=>∃ σ' H',Inv X pins σ' H' s'/\D.ct σ' H'
 | .ret u=>∃ v σ' H',Inv X pins σ' H' s'/\RelV v u/\D.rt v H'
def PE(X:Cx)(e:Expr)(t:TE):Prop :=
 ∀ (pins:List (Addr × Obj)) (s:Shared) (σ:St) (H:Hp) (Q:VK),Inv X pins σ H s->t σ H Q->wpAny (model X.prog X.w) X.A (eval e X.env) (EP X pins σ Q) X.xe s
def PT(X:Cx)(e:Expr)(t:TT):Prop :=
 ∀ (pins:List (Addr × Obj)) (s:Shared) (σ:St) (H:Hp) (Q:Bool->Hp->Prop),Inv X pins σ H s->t σ H Q->wpAny (model X.prog X.w) X.A (isTrue e X.env (eval e X.env)) (TP X pins σ Q) X.xe s
def PW(X:Cx)(e:Expr)(t:TT):Prop :=
 ∀ (whole:Sem Value) (pins:List (Addr × Obj)) (s:Shared) (σ:St) (H:Hp) (Q:Bool->Hp->Prop),Inv X pins σ H s->t σ H Q->wpAny (model X.prog X.w) X.A (isTrue e X.env whole) (TP X pins σ Q) X.xe s
theorem PW.pt{X:Cx}{e:Expr}{t:TT}(h:PW X e t):PT X e t:=h _
def PA(X:Cx)(es:List Expr)(t:TA):Prop :=
 ∀ (pos:Pos) (pins:List (Addr × Obj)) (s:Shared) (σ:St) (H:Hp) (Q:List V->Hp->Prop),Inv X pins σ H s->t σ H Q->wpAny (model X.prog X.w) X.A (spliced (backTo pos (starEach es X.env))) (AP X pins σ Q) X.xe s
def PS(X:Cx)(st:Stmt)(t:TS):Prop :=
 ∀ (pins:List (Addr × Obj)) (s:Shared) (σ:St) (H:Hp) (D:Ends),Inv X pins σ H s->t D σ H->wpAny (model X.prog X.w) X.A (exec st X.env) (SP X pins D) X.xe s
def PSs(X:Cx)(st:List Stmt)(t:TS):Prop :=
 ∀ (pins:List (Addr × Obj)) (s:Shared) (σ:St) (H:Hp) (D:Ends),Inv X pins σ H s->t D σ H->wpAny (model X.prog X.w) X.A (execs st X.env) (SP X pins D) X.xe s
theorem thn{α :Type}{t:Sem α}{Q Q': α ->Shared->Prop}{M:Model}{A:Around}{E:Value->Shared->Prop}{s:Shared}(h:wpAny M A t Q E s)(hQ:∀ a s,Q a s->Q' a s):wpAny M A t Q' E s:=wpAny_mono h hQ λ_ _ x=>x
end L2
namespace L2
open PySem PySem.Spec PyProof.Rows
section
variable{X:Cx}
def tVar(i:Nat):TE:=λσ H Q=>∃ v,σ[i]? =some (some v)/\Q v H
def tC(v:V):TE:=λ_ H Q=>Q v H
theorem zz9{i:Nat}{x:Str}{pos:Pos}(hN:X.N[i]? =some x)(hv:Vis X.env.scope x)(hd:(x ==("__debug__":Str))=false:=by decide)(hcd:(x ==("__classdict__":Str))=false:=by decide):PE X (.Name x pos) (tVar i):=by
 intro pins s σ H Q I h
 obtain⟨v,e,h⟩:=h
 obtain⟨m,hn,hl⟩:=I.loc
 obtain⟨u,r,l⟩:=hl i x v hN e hv
 have fin:EP X pins σ Q u s:=⟨v,H,I,r,h⟩
 rcases l with⟨hk,hm⟩ | ⟨hk,c,hc,hcell⟩
 ·exact wpAny_Name (wpAny_loadName_local I.ok.kind hk hn hm fin) hd
 ·rcases hk with hk | hk
  ·exact wpAny_Name (wpAny_loadName_cell I.ok.kind hk hc hcell fin) hd
  ·exact wpAny_Name (wpAny_loadName_free I.ok.kind hk hc hcell fin hcd) hd
theorem zaq{i j pos}:PE X (.Constant (.int i) j pos) (tC (.int i)):=λ_ _ _ H _ I h=>wpAny_Constant_int ⟨.int i,H,I.tok _,⟨_,rfl⟩,h⟩
theorem zox{b j pos}:PE X (.Constant (.bool b) j pos) (tC (.bl b)):=λ_ _ _ H _ I h=>Constant_bool ⟨.bl b,H,I,rfl,h⟩
theorem zjh{j pos}:PE X (.Constant .none j pos) (tC .non):=λ_ _ _ H _ I h=>Constant_none ⟨.non,H,I,rfl,h⟩
theorem zh3{x j pos}:PE X (.Constant (.str x) j pos) (tC (.str x)):=λ_ _ _ H _ I h=>Calls.Constant_str ⟨.str x,H,I.tok _,⟨_,rfl⟩,h⟩
def Gl(X:Cx)(x:Str):Prop:=X.env.kindOf x=some .globalImplicit
theorem zmh{E:Value->Shared->Prop}{pins:List (Addr × Obj)}{s:Shared}{σ:St}{H:Hp}{x:Str}{u:Value}{pos:Pos}{Q:Value->Shared->Prop}(I:Inv X pins σ H s)(hg:Gl X x)(hm:X.mg x=some u)(h:Q u s)
  (hd:(x ==("__debug__":Str))=false:=by decide):wpAny (model X.prog X.w) X.A (eval (.Name x pos) X.env) Q E s :=
 Calls.Name_function_global I.ok.kind hg (Calls.loadGlobal_global (by rw[I.ok.glob];exact I.mod.glob.keeps I.bk) hm h) hd
theorem zp5{E:Value->Shared->Prop}{pins:List (Addr × Obj)}{s:Shared}{σ:St}{H:Hp}{x:Str}{u:Value}{pos:Pos}{Q:Value->Shared->Prop}(I:Inv X pins σ H s)(hg:Gl X x)(hm:X.mg x=none)(hv:bootBuiltins x=some u)(h:Q u s)
  (hn:x≠"__name__":=by decide) (hd:(x ==("__debug__":Str))=false:=by decide):wpAny (model X.prog X.w) X.A (eval (.Name x pos) X.env) Q E s:=by
 obtain⟨mb,h1,h2⟩:=I.mod.blt
 exact Calls.Name_function_global I.ok.kind hg (Calls.loadGlobal_builtin (by rw[I.ok.glob];exact I.mod.glob.keeps I.bk) hm (by rw[I.ok.blt];exact h1.keeps I.bk) ((h2 x hn).trans hv) h) hd
theorem zx0{x:Str}{v:V}{u:Value}{pos:Pos}(hg:Gl X x)(hm:X.mg x=some u)(r:RelV v u)(hd:(x ==("__debug__":Str))=false:=by decide):PE X (.Name x pos) (tC v) :=
 λ_ _ _ H _ I h=>zmh I hg hm ⟨v,H,I,r,h⟩ hd
theorem zrq{x:Str}{v:V}{u:Value}{pos:Pos}(hg:Gl X x)(hm:X.mg x=none)(hv:bootBuiltins x=some u)(r:RelV v u)(hn:x≠"__name__":=by decide)(hd:(x ==("__debug__":Str))=false:=by decide):PE X (.Name x pos) (tC v) :=
 λ_ _ _ H _ I h=>zp5 I hg hm hv ⟨v,H,I,r,h⟩ hn hd
variable{a b:Expr}{ta tb:TE}{pos:Pos}
def PC (X:Cx) (op:CmpOp) (a b:Expr) (t:TE):Prop :=
  ∀ (pins:List (Addr × Obj)) (s:Shared) (σ:St) (H:Hp) (Q:VK),Inv X pins σ H s->t σ H Q →
    wpAny (model X.prog X.w) X.A (eval a X.env) (λv s₁=>wpAny (model X.prog X.w) X.A (eval b X.env) (λu s₂=>wpAny (model X.prog X.w) X.A (compareOp op v u) (EP X pins σ Q) X.xe s₂) X.xe s₁) X.xe s
theorem zv0(b:Expr){op:CmpOp}(h:op≠.In)(h2:op≠.NotIn):behindInMarks op b=false:=by
 have e1:(op == CmpOp.In)=false:=by cases op<;>first | rfl | exact absurd rfl h
 have e2:(op == CmpOp.NotIn)=false:=by cases op<;>first | rfl | exact absurd rfl h2
 cases b<;>simp[behindInMarks,e1,e2]
def tB(t:TE):TT:=λσ H Q=>t σ H λx H1=>∃ c,x=.bl c/\Q c H1
theorem zaaa{op:CmpOp}{t:TE}(h:PC X op a b t)(h1:behindInMarks op b=false:=by first | exact zv0 _ (by decide) (by decide) | rfl):PT X (.Compare a [op] [b] pos) (tB t):=by
 intro pins s σ H Q I hw
 refine wpAny_isTrue_Compare1 (thn (h pins s σ H _ I hw) λv s1 h1=>thn h1 λu s2 h2=>thn h2 λc s3 ⟨x,H1,I1,r1,q1⟩=> ?_) h1
 obtain⟨d,rfl,q⟩:=q1
 cases r1
 exact wpAny_truthy_bool ⟨H1,I1,q⟩
variable{tA tB':TT}{rest:List Expr}
def tAnd(t u:TT):TT:=λσ H Q=>t σ H λc H1=>if c=true then u σ H1 Q else Q false H1
def tOr(t u:TT):TT:=λσ H Q=>t σ H λc H1=>if c=true then Q true H1 else u σ H1 Q
def tNot(t:TT):TT:=λσ H Q=>t σ H λc H1=>Q (!c) H1
theorem zx1(ha:PT X a tA):PW X (.BoolOp .And [a] pos) tA:=by
 intro wh pins s σ H Q I h
 refine isTrue_and (thn (ha pins s σ H Q I h) λc s1 e=> ?_)
 cases c with
 | true=>exact isTrue_and_nil e
 | false=>exact e
theorem zsp(ha:PT X a tA):PW X (.BoolOp .Or [a] pos) tA:=by
 intro wh pins s σ H Q I h
 refine isTrue_or (thn (ha pins s σ H Q I h) λc s1 e=> ?_)
 cases c with
 | false=>exact isTrue_or_nil e
 | true=>exact e
theorem zaab(ha:PT X a tA)(hb:PW X (.BoolOp .And (b::rest) pos) tB'):PW X (.BoolOp .And (a::b::rest) pos) (tAnd tA tB'):=by
 intro wh pins s σ H Q I h
 refine isTrue_and (thn (ha pins s σ H _ I h) λc s1 ⟨H1,I1,q1⟩=> ?_)
 cases c with
 | true=>exact hb wh pins s1 σ H1 Q I1 q1
 | false=>exact⟨H1,I1,q1⟩
theorem zt8(ha:PT X a tA)(hb:PW X (.BoolOp .Or (b::rest) pos) tB'):PW X (.BoolOp .Or (a::b::rest) pos) (tOr tA tB'):=by
 intro wh pins s σ H Q I h
 refine isTrue_or (thn (ha pins s σ H _ I h) λc s1 ⟨H1,I1,q1⟩=> ?_)
 cases c with
 | true=>exact⟨H1,I1,q1⟩
 | false=>exact hb wh pins s1 σ H1 Q I1 q1
theorem zk4(ha:PT X a tA):PT X (.UnaryOp .Not a pos) (tNot tA):=by
 intro pins s σ H Q I h
 exact isTrue_not (ha pins s σ H (λc H1=>Q (!c) H1) I h)
def zv1(ta tb:TE):TE:=λσ H Q=>ta σ H λx H1=>∃ c,x=.bl c/\if c=true then tb σ H1 Q else Q (.bl false) H1
def tOrV(ta tb:TE):TE:=λσ H Q=>ta σ H λx H1=>∃ c,x=.bl c/\if c=true then Q (.bl true) H1 else tb σ H1 Q
theorem zxl{op}{t:TE}(h:PE X a t):PE X (.BoolOp op [a] pos) t:=λpins s σ H Q I hw=>BoolOp_one (h pins s σ H Q I hw)
theorem zxm(ha:PE X a ta)(hb:PE X (.BoolOp .And (b::rest) pos) tb):PE X (.BoolOp .And (a::b::rest) pos) (zv1 ta tb):=by
 intro pins s σ H Q I h
 refine BoolOp_and (thn (ha pins s σ H _ I h) λv s1 ⟨x,H1,I1,r1,q1⟩=> ?_)
 obtain⟨c,rfl,q1⟩:=q1
 cases r1
 refine wpAny_truthy_bool ?_
 cases c with
 | true=>exact hb pins s1 σ H1 Q I1 q1
 | false=>exact⟨.bl false,H1,I1,rfl,q1⟩
def tIf(t:TT)(ta tb:TE):TE:=λσ H Q=>t σ H λc H1=>if c=true then ta σ H1 Q else tb σ H1 Q
end
end L2
namespace L2
open PySem PySem.Spec PyProof.Rows
def SqL (K:PySem.W.Frag) (H:Hp) (a:Addr) (xs:List V):Prop :=
  Rd H a (.lst xs) ∨
    ∃ (o:Obj) (its:Array Value) (n:Nat),K.lookup a=some o/\o.cls=.type "list"/\o.dict=none/\o.data=.seq its n/\its.size<=sizeLine/\Vals xs its.toList
def SqT (K:PySem.W.Frag) (H:Hp) (a:Addr) (xs:List V):Prop :=
  Rd H a (.tup xs) ∨
    ∃ (o:Obj) (its:Array Value) (n:Nat),K.lookup a=some o/\o.cls=.type "tuple"/\o.data=.seq its n/\its.size<=sizeLine/\Vals xs its.toList
def absV:Value->Option V
 | .none=>some .non
 | .bool b=>some (.bl b)
 | .int i _=>some (.int i)
 | .str x _=>some (.str x)
 | .bytes b _=>some (.byt b)
 | .float b _=>some (.flt b)
 | .ref a=>some (.ref a)
 | .type n=>some (.ty n)
 | _=>none
theorem RelV.abs{x:V}{u:Value}(r:RelV x u):absV u=some x:=by
 cases x with
 | non=>cases r;rfl
 | bl _=>cases r;rfl
 | int _=>obtain⟨t,rfl⟩:=r;rfl
 | str _=>obtain⟨t,rfl⟩:=r;rfl
 | byt _=>obtain⟨t,rfl⟩:=r;rfl
 | flt _=>obtain⟨t,rfl⟩:=r;rfl
 | ref _=>cases r;rfl
 | ty _=>cases r;rfl
theorem RelV.inj{x y:V}{u:Value}(r:RelV x u)(q:RelV y u):x=y:=Option.some.inj (r.abs.symm.trans q.abs)
theorem Vals.inj:∀ {xs ys:List V} {us:List Value},Vals xs us->Vals ys us->xs=ys
 | _,_,_,.nil,.nil=>rfl
 | _,_,_,.cons r t,.cons r' t'=>by rw[r.inj r',Vals.inj t t']
section
variable{X:Cx}{pins:List (Addr × Obj)}{σ:St}{H:Hp}{s:Shared}{a:Addr}{xs ys:List V}
theorem SqL.of{K:PySem.W.Frag}(h:H a=some (.lst xs)):SqL K H a xs:=.inl (.inl h)
theorem SqT.of{K:PySem.W.Frag}(h:H a=some (.tup xs)):SqT K H a xs:=.inl (.inl h)
theorem Inv.list(I:Inv X pins σ H s)(h:SqL X.K H a xs):∃ its:List Value,Vals xs its/\PlainL s.heap a its.toArray/\xs.length<=sizeLine:=by
 rcases h with h | ⟨o,its,n,hk,hc,hd,hs,hz,r⟩
 ·obtain⟨z,its,n,r,e⟩:=h.ok I.hok
  exact⟨its,r,⟨_,n,e,rfl,rfl,rfl⟩,z⟩
 ·refine⟨its.toList,r,⟨o,n,I.kIn a o hk,hc,hd,by simpa using hs⟩,?_⟩
  have e:=r.length
  simp only[Array.length_toList]at e
  omega
theorem Inv.tuple(I:Inv X pins σ H s)(h:SqT X.K H a xs):∃ its:List Value,Vals xs its/\IsTup s.heap a its.toArray/\xs.length<=sizeLine:=by
 rcases h with h | ⟨o,its,n,hk,hc,hs,hz,r⟩
 ·obtain⟨z,its,r,p⟩:=h.ok I.hok
  exact⟨its,r,p,z⟩
 ·refine⟨its.toList,r,⟨o,I.kIn a o hk,hc,n,by simpa using hs⟩,?_⟩
  have e:=r.length
  simp only[Array.length_toList]at e
  omega
theorem Inv.list_inj(I:Inv X pins σ H s)(h:SqL X.K H a xs)(h':SqL X.K H a ys):xs=ys:=by
 obtain⟨its,r,⟨o,n,e,_,_,d⟩,_⟩:=I.list h
 obtain⟨its',r',⟨o',n',e',_,_,d'⟩,_⟩:=I.list h'
 rw[e]at e';cases e'
 rw[d]at d'
 injection d' with d1 _
 have:its=its':=by simpa using congrArg Array.toList d1
 subst this
 exact r.inj r'
theorem Inv.tuple_inj(I:Inv X pins σ H s)(h:SqT X.K H a xs)(h':SqT X.K H a ys):xs=ys:=by
 obtain⟨its,r,⟨o,e,_,n,d⟩,_⟩:=I.tuple h
 obtain⟨its',r',⟨o',e',_,n',d'⟩,_⟩:=I.tuple h'
 rw[e]at e';cases e'
 rw[d]at d'
 injection d' with d1 _
 have:its=its':=by simpa using congrArg Array.toList d1
 subst this
 exact r.inj r'
end
abbrev Cx.wish(X:Cx)(E:Value->Shared->Prop):Cx:={ X with xe:=E }
abbrev Cx.nox(X:Cx):Cx:=X.wish λ_ _=>False
theorem Cx.Ok.wish{X:Cx}(ok:X.Ok)(E:Value->Shared->Prop):(X.wish E).Ok :=
 ⟨ok.mod,ok.kind,ok.glob,ok.blt,ok.above,ok.inj,ok.has,ok.cab,ok.hd,ok.frames,ok.stk,ok.exf,ok.bs,ok.bsz,ok.noex,ok.exfs,ok.funs,ok.frf⟩
theorem Cx.Ok.unwish{X:Cx}{E:Value->Shared->Prop}(ok:(X.wish E).Ok):X.Ok :=
 ⟨ok.mod,ok.kind,ok.glob,ok.blt,ok.above,ok.inj,ok.has,ok.cab,ok.hd,ok.frames,ok.stk,ok.exf,ok.bs,ok.bsz,ok.noex,ok.exfs,ok.funs,ok.frf⟩
section
variable{X:Cx}{pins:List (Addr × Obj)}{σ:St}{H:Hp}{s:Shared}{E:Value->Shared->Prop}
theorem Inv.wish(I:Inv X pins σ H s)(E:Value->Shared->Prop):Inv (X.wish E) pins σ H s:=⟨I.ok.wish E,I.os,I.bare,I.base,I.loc,I.cell,I.free,I.freeC,I.pin,I.hok,I.len⟩
theorem Inv.unwish(I:Inv (X.wish E) pins σ H s):Inv X pins σ H s:=⟨I.ok.unwish,I.os,I.bare,I.base,I.loc,I.cell,I.free,I.freeC,I.pin,I.hok,I.len⟩
theorem SP.unwish{D:Ends}{f:Flow}{s':Shared}(h:SP (X.wish E) pins D f s'):SP X pins D f s':=by
 cases f with
 | next=>obtain⟨σ',H',I,q⟩:=h;exact⟨σ',H',I.unwish,q⟩
 | brk=>obtain⟨σ',H',I,q⟩:=h;exact⟨σ',H',I.unwish,q⟩
 | cont=>obtain⟨σ',H',I,q⟩:=h;exact⟨σ',H',I.unwish,q⟩
 | ret u=>obtain⟨v,σ',H',I,r,q⟩:=h;exact⟨v,σ',H',I.unwish,r,q⟩
theorem PE.nox{e:Expr}{t:TE}(h:PE X.nox e t):PE X e t:=λpins s σ H Q I hw =>
 wpAny_mono (h pins s σ H Q (I.wish _) hw) (λ_ _ ⟨v,H',I',r,q⟩=>⟨v,H',I'.unwish,r,q⟩) λ_ _ z=>False.elim z
theorem PT.nox{e:Expr}{t:TT}(h:PT X.nox e t):PT X e t:=λpins s σ H Q I hw =>
 wpAny_mono (h pins s σ H Q (I.wish _) hw) (λ_ _ ⟨H',I',q⟩=>⟨H',I'.unwish,q⟩) λ_ _ z=>False.elim z
theorem PSs.nox{st:List Stmt}{t:TS}(h:PSs X.nox st t):PSs X st t:=λpins s σ H D I hw =>
 wpAny_mono (h pins s σ H D (I.wish _) hw) (λ_ _ q=>q.unwish) λ_ _ z=>False.elim z
end
section
variable{X:Cx}{st:Stmt}{rest:List Stmt}{t u:TS}{e:Expr}{te:TE}{pos:Pos}
def zf2:TS:=λD σ H=>D.nx σ H
def tSeq(t u:TS):TS:=λD σ H=>t { D with nx:=u D } σ H
theorem zc9:PSs X [] zf2:=λ_ _ σ H _ I h=>wpAny_execs_nil ⟨σ,H,I,h⟩
theorem zai(h1:PS X st t)(h2:PSs X rest u):PSs X (st::rest) (tSeq t u):=by
  intro pins s σ H D I h
  refine wpAny_execs_cons (thn (h1 pins s σ H { D with nx:=u D } I h) λf s1 q=> ?_)
  cases f with
  | next =>
    obtain⟨σ',H',I',q⟩:=q
    exact h2 pins s1 σ' H' D I' q
  | ret v=>exact q
  | brk=>exact q
  | cont=>exact q
theorem zaj(h1:PS X st t):PSs X [st] t:=by
 intro pins s σ H D I h
 refine wpAny_execs_cons (thn (h1 pins s σ H D I h) λf s1 q=> ?_)
 cases f with
 | next=>exact wpAny_execs_nil q
 | ret v=>exact q
 | brk=>exact q
 | cont=>exact q
def zaac:TS:=λD σ H=>D.bk σ H
def zacb:TS:=λD σ H=>D.ct σ H
theorem Inv.quiet{pins:List (Addr × Obj)}{σ:St}{H:Hp}{s:Shared}(I:Inv X pins σ H s):interactive X.env=false:=by simp[interactive,I.ok.kind]
def zlf(te:TE):TS:=λD σ H=>te σ H λ_ H1=>D.nx σ H1
theorem zft(he:PE X e te)(hs:swapsWith e none pos.line X.env=pure false:=by rfl):PS X (.Expr e pos) (zlf te):=by
 intro pins s σ H D I h
 exact wpAny_Expr_any (thn (he pins s σ H _ I h) λv s1 ⟨x,H1,I1,r1,q1⟩=>⟨σ,H1,I1,q1⟩) I.quiet hs
def tRet(te:TE):TS:=λD σ H=>te σ H D.rt
theorem zbf(he:PE X e te):PS X (.Return (some e) pos) (tRet te):=by
 intro pins s σ H D I h
 exact wpAny_Return_some (thn (he pins s σ H _ I h) λv s1 ⟨x,H1,I1,r1,q1⟩=>⟨x,σ,H1,I1,r1,q1⟩)
def zacc:TS:=λD _ H=>D.rt .non H
def tIfS(c:TT)(t u:TS):TS:=λD σ H=>c σ H λb H1=>if b=true then t D σ H1 else u D σ H1
theorem zga{c:Expr}{a b:List Stmt}{tc:TT}(hc:PT X c tc)(ha:PSs X a t)(hb:PSs X b u):PS X (.If c a b pos) (tIfS tc t u):=by
 intro pins s σ H D I h
 refine wpAny_If (thn (hc pins s σ H _ I h) λd s1 ⟨H1,I1,q1⟩=> ?_)
 cases d with
 | true=>exact ha pins s1 σ H1 D I1 q1
 | false=>exact hb pins s1 σ H1 D I1 q1
end
abbrev TG:=V->St->Hp->(St->Hp->Prop)->Prop
abbrev TGs:=List V->St->Hp->(St->Hp->Prop)->Prop
def PG (X:Cx) (target:Expr) (t:TG):Prop :=
  ∀ (pins:List (Addr × Obj)) (s:Shared) (σ:St) (H:Hp) (v:V) (u:Value) (Q:St->Hp->Prop),Inv X pins σ H s->RelV v u->t v σ H Q →
    wpAny (model X.prog X.w) X.A (assign target X.env u) (λ_ s'=>∃ σ' H',Inv X pins σ' H' s'/\Q σ' H') X.xe s
def PGs (X:Cx) (ts:List Expr) (t:TGs):Prop :=
  ∀ (pins:List (Addr × Obj)) (s:Shared) (σ:St) (H:Hp) (vs:List V) (us:List Value) (Q:St->Hp->Prop),Inv X pins σ H s->Vals vs us->t vs σ H Q →
    wpAny (model X.prog X.w) X.A (assignInOrder ((assignEach ts X.env).map (·.2)) us) (λ_ s'=>∃ σ' H',Inv X pins σ' H' s'/\Q σ' H') X.xe s
abbrev TSet:=V->V->V->Hp->(Hp->Prop)->Prop
abbrev TIp:=V->V->Hp->VK->Prop
section
variable{X:Cx}{pos:Pos}
def zbw(i:Nat):TG:=λv σ H Q=>Q (σ.set i (some v)) H
theorem zd0{i:Nat}{x:Str}(hN:X.N.Nodup)(hi:X.N[i]? =some x)(hx:Loc X.env.scope x)(hf:X.fn x=true\/X.env.scope.names.lookup x=some .local:=by first | exact .inl rfl | exact .inr rfl | assumption):PG X (.Name x pos) (zbw i):=by
 intro pins s σ H v u Q I r h
 exact wpAny_assign_Name (zmd I hN hi hx r (λs' I'=>⟨_,H,I',h⟩) hf)
def gNil:TGs:=λvs σ H Q=>vs=[]/\Q σ H
def ztb(t:TG)(u:TGs):TGs:=λvs σ H Q=>∃ v r,vs=v::r/\t v σ H λσ' H'=>u r σ' H' Q
theorem zt9:PGs X [] gNil:=by
 intro pins s σ H vs us Q I r h
 obtain⟨e,h⟩:=h
 subst e
 cases r
 exact assignInOrder_nil ⟨σ,H,I,h⟩
theorem zme{e:Expr}{es:List Expr}{t:TG}{u:TGs}(h1:PG X e t)(h2:PGs X es u)
    (hs:(assignEach (e::es) X.env).map (·.2)=assign e X.env::(assignEach es X.env).map (·.2):=by rfl):PGs X (e::es) (ztb t u):=by
  intro pins s σ H vs us Q I r h
  obtain⟨v,vr,e1,h⟩:=h
  subst e1
  cases r with
  | cons r rr =>
    rw[hs]
    refine assignInOrder_cons (thn (h1 pins s σ H _ _ _ I r h) λ_ s1 ⟨σ1,H1,I1,q1⟩=> ?_)
    exact h2 pins s1 σ1 H1 _ _ Q I1 rr q1
def gTup(K:PySem.W.Frag)(n:Nat)(t:TGs):TG:=λv σ H Q=>∃ a xs,v=.ref a/\SqT K H a xs/\xs.length=n/\t xs σ H Q
theorem zxn{es:List Expr}{k:Nat}{t:TGs}{n:Nat}(hc:X.calm=true)(h:PGs X es t)
  (hn:(assignEach es X.env).length=n:=by rfl) (hst:(assignEach es X.env).findIdx? (·.1)=none:=by rfl):PG X (.Tuple es k pos) (gTup X.K n t):=by
 intro pins s σ H v u Q I r hw
 obtain⟨a,xs,e1,hq,hl,hw⟩:=hw
 subst e1
 cases r
 obtain⟨its,rv,ht,hz⟩:=I.tuple hq
 refine assign_Tuple_tuple (I.ok.hd hc) ht (by simp[hn,<-hl,rv.length]) hst λh' hx=> ?_
 have I1:Inv X pins σ H { s with heap:=h' }:=I.kept (t':=s.toks) λb o e=>hx b o (Nat.ne_of_lt (Heap.lt_size e)) e
 exact h pins _ σ H xs _ Q I1 (by simpa using rv) hw
def gSub(to ti:TE)(t:TSet):TG:=λv σ H Q=>to σ H λo H1=>ti σ H1 λi H2=>t o i v H2 λH3=>Q σ H3
def tAsg(te:TE)(g:TG):TS:=λD σ H=>te σ H λx H1=>g x σ H1 D.nx
theorem zdt{i:Nat}{x:Str}{e:Expr}{te:TE}{pos':Pos}(hN:X.N.Nodup)(hi:X.N[i]? =some x)(hx:Loc X.env.scope x)(he:PE X e te)(hs:swapsWith e (some (.Name x pos')) pos.line X.env=pure false:=by rfl)(hf:X.fn x=true\/X.env.scope.names.lookup x=some .local:=by first | exact .inl rfl | exact .inr rfl | assumption) :
  PS X (.Assign [.Name x pos'] e pos) (tAsg te (zbw i)):=by
 intro pins s σ H D I h
 refine wpAny_Assign_Name (thn (he pins s σ H _ I h) λv s1 ⟨y,H1,I1,r1,q1⟩=> ?_) hs
 exact zmd I1 hN hi hx r1 (λs2 I2=>⟨_,H1,I2,q1⟩) hf
def tAug(i:Nat)(te:TE)(ti:TIp):TS:=λD σ H=>∃ x,σ[i]? =some (some x)/\te σ H λy H1=>ti x y H1 λz H2=>D.nx (σ.set i (some z)) H2
def ipI(f:Int->Int->Int):TIp:=λx y H Q=>∃ i j,x=.int i/\y=.int j/\Q (.int (f i j)) H
end
section
variable{X:Cx}{pos:Pos}
end
structure It where
 go:Nat->Hp->Prop
 yld:Nat->Hp->V->Hp->Prop
 stop:Nat->Hp->Prop
def FpOk(X:Cx)(pins:List (Addr × Obj))(H:Hp)(b:Addr):Prop :=
 H b=none/\b≠X.env.locals/\b∉X.fs/\(b∈X.ex\/X.s₀.heap.objs.size<=b)/\(∀ x c,X.env.cells.lookup x=some c->c≠b)/\∀ p∈X.pn++pins,p.1≠b
theorem Inv.fpOk{X:Cx}{pins:List (Addr × Obj)}{σ:St}{H H':Hp}{s:Shared}{b:Addr}(I:Inv X pins σ H s)(hb:s.heap.objs.size<=b)(hn:H' b=none):FpOk X pins H' b:=by
 refine⟨hn,Nat.ne_of_gt (Nat.lt_of_lt_of_le I.lt hb),I.nofs hb,.inr (Nat.le_trans I.sz hb),λx c e z=> ?_,λp hp z=> ?_⟩
 ·obtain⟨v,q⟩:=I.cell x c e
  exact absurd (Nat.lt_of_lt_of_le q.lt (by rw[z];exact hb)) (Nat.lt_irrefl _)
 ·exact absurd (Nat.lt_of_lt_of_le (Heap.lt_size (I.pin p hp).1) (by rw[z];exact hb)) (Nat.lt_irrefl _)
structure Turn(P:Program)(w:World)(K:PySem.W.Frag)(tg:Expr)(J:It)(fp:List Addr)(it:Addr)(tn:Nat->Heap->Prop):Prop where
 mem:it∈fp
 obj:∀ i h,tn i h->∀ b∈fp,∃ o,h.get? b=some o/\∀ v,o.data≠.cell v
 keep:∀ i h h',tn i h->(∀ b∈fp,∀ o,h.get? b=some o->h'.get? b=some o)->tn i h'
 item:∀ (X:Cx),X.prog=P->X.w=w->X.K=K->X.calm=true->∀ (i:Nat) (pins:List (Addr × Obj)) (s:Shared) (σ:St) (H:Hp) (E:Value->Shared->Prop),Inv X pins σ H s->(∀ b∈fp,FpOk X pins H b)->tn i s.heap->J.go i H →
  wpAny (model P w) X.A (pyNext (.ref it)) (λr s1=>∃ u,r=some u ∧
   wpAny (model P w) X.A (letOwnedTupleGo tg (.ref it) u) (λ_ s2=>∃ x H',Inv X pins σ H' s2/\RelV x u/\J.yld i H x H'/\tn (i+1) s2.heap/\∀ b∈fp,H' b=none) E s1) E s
 done:∀ (X:Cx),X.prog=P->X.w=w->X.K=K->X.calm=true->∀ (i:Nat) (pins:List (Addr × Obj)) (s:Shared) (σ:St) (H:Hp) (E:Value->Shared->Prop),Inv X pins σ H s->(∀ b∈fp,FpOk X pins H b)->tn i s.heap->J.stop i H →
  wpAny (model P w) X.A (pyNext (.ref it)) (λr s1=>r=none/\Inv X pins σ H s1) E s
 self:∀ (A:Around) (i:Nat) (s:Shared) (Q:Value->Shared->Prop) (E:Value->Shared->Prop),tn i s.heap->Q (.ref it) s->wpAny (model P w) A (pyIter (.ref it)) Q E s
abbrev TI:=St->Hp->(It->Hp->Prop)->Prop
def PIE(X:Cx)(pins:List (Addr × Obj))(σ:St)(tg:Expr)(R:It->Hp->Prop)(itv:Value)(s2:Shared):Prop :=
 ∃ (it:Addr) (fp:List Addr) (tn:Nat->Heap->Prop) (J:It) (H':Hp),itv=.ref it/\Inv X pins σ H' s2/\Turn X.prog X.w X.K tg J fp it tn/\tn 0 s2.heap/\(∀ b∈fp,FpOk X pins H' b)/\R J H'
def PI (X:Cx) (tg iter:Expr) (wi:TI):Prop :=
  ∀ (pins:List (Addr × Obj)) (s:Shared) (σ:St) (H:Hp) (R:It->Hp->Prop),Inv X pins σ H s->wi σ H R →
    wpAny (model X.prog X.w) X.A (eval iter X.env) (λv s1=>wpAny (model X.prog X.w) X.A (pyIter v) (PIE X pins σ tg R) X.xe s1) X.xe s
theorem zv2 {M:Model} {A:Around} {E:Value->Shared->Prop} {s:Shared} {tg:Expr} {it:Addr} {u:Value} {o:Obj} {n:String} {vs:Array Value} {Q:Unit->Shared->Prop} (ho:s.heap.get? it=some o) (hc:o.cls=.type n) (hd:o.data=.fields vs)
    (hn:["enumerate","zip","dict_itemiterator","dict_reverseitemiterator","odict_iterator","itertools.zip_longest","itertools.pairwise"].contains n=false) (hQ:Q () s):wpAny M A (letOwnedTupleGo tg (.ref it) u) Q E s:=by
  unfold letOwnedTupleGo
  cases tg <;> first
    | exact wpAny_pure hQ
    | (cases u<;>first
        | exact wpAny_pure hQ
        | (refine wpAny_bind (wpAny_load ho ?_)
           rw[hc,hd]
           show wpAny M A (if(["enumerate","zip","dict_itemiterator","dict_reverseitemiterator","odict_iterator","itertools.zip_longest","itertools.pairwise"].contains n && vs[0]? == some (rawInt _))=true then _ else _) Q E s
           rw[if_neg (by intro h;rw[hn,Bool.false_and]at h;cases h)]
           exact wpAny_pure hQ))
def Itl(K:PySem.W.Frag)(a:Addr):It :=
 ⟨λi H=>∃ xs x,SqL K H a xs/\xs[i]? =some x,λi H x H'=>H'=H/\∀ xs,SqL K H a xs->xs[i]? =some x,λi H=>∃ xs,SqL K H a xs/\xs.length<=i⟩
def Itt(K:PySem.W.Frag)(a:Addr):It :=
 ⟨λi H=>∃ xs x,SqT K H a xs/\xs[i]? =some x,λi H x H'=>H'=H/\∀ xs,SqT K H a xs->xs[i]? =some x,λi H=>∃ xs,SqT K H a xs/\xs.length<=i⟩
def Itr(lo:Int)(n:Nat):It:=⟨λi _=>i<n,λi H x H'=>H'=H/\x=.int (lo+i),λi _=>n<=i⟩
theorem zua{P:Program}{w:World}{K:PySem.W.Frag}{tg:Expr}(a it:Addr):Turn P w K tg (Itl K a) [it] it (λi h=>h.IsListIter it a i) where
 mem:=by simp
 obj:=λi h st b hb=>by
  have e:b=it:=by simpa using hb
  subst e
  obtain⟨o,e,c,d⟩:=st
  exact⟨o,e,λv z=>by rw[d]at z;cases z⟩
 keep:=λi h h' st k=>st.at λo e=>k it (by simp) o e
 item:=by
  intro X hP hw hK hc i pins s σ H E I hf st hg
  subst hP hw hK
  obtain⟨xs,x,hq,hx⟩:=hg
  obtain⟨its,rv,p,hz⟩:=I.list hq
  obtain⟨u,hu,ru⟩:=rv.get hx
  obtain⟨f0,f1,f2,f3,f4,f5⟩:=hf it (by simp)
  refine wpAny_pyNext_list_item st p.isList (x:=u) (by simpa using hu) λh' st' sb=> ?_
  have I1:Inv X pins σ H { s with heap:=h' }:=I.turned (t':=s.toks) (λb o hb e=>(sb.2 b hb).trans e) f0 f1 f3 f4 f5
  obtain⟨o,e,c,d⟩:=id st'
  exact⟨u,rfl,zv2 (s:={ s with heap:=h' }) e c d (by decide) ⟨x,H,I1,ru,⟨rfl,λys hy=>by rw[I.list_inj hy hq];exact hx⟩,st',λb hb=>(hf b hb).1⟩⟩
 done:=by
  intro X hP hw hK hc i pins s σ H E I hf st hg
  subst hP hw hK
  obtain⟨xs,hq,hx⟩:=hg
  obtain⟨its,rv,p,hz⟩:=I.list hq
  obtain⟨f0,f1,f2,f3,f4,f5⟩:=hf it (by simp)
  have hl:=rv.length
  exact wpAny_pyNext_list_end (I.ok.hd hc) st p.isList (by simp;omega) λh' eb=>⟨rfl,I.turned (t':=s.toks) (λb o hb e=>eb b o hb e) f0 f1 f3 f4 f5⟩
 self:=λ_ _ _ _ _ st h=>wpAny_pyIter_listiter st h
theorem ztc{P:Program}{w:World}{K:PySem.W.Frag}{tg:Expr}(a it:Addr):Turn P w K tg (Itt K a) [it] it (λi h=>h.IsTupleIter it a i) where
 mem:=by simp
 obj:=λi h st b hb=>by
  have e:b=it:=by simpa using hb
  subst e
  obtain⟨o,e,c,d⟩:=st
  exact⟨o,e,λv z=>by rw[d]at z;cases z⟩
 keep:=λi h h' st k=>st.at λo e=>k it (by simp) o e
 item:=by
  intro X hP hw hK hc i pins s σ H E I hf st hg
  subst hP hw hK
  obtain⟨xs,x,hq,hx⟩:=hg
  obtain⟨its,rv,p,hz⟩:=I.tuple hq
  obtain⟨u,hu,ru⟩:=rv.get hx
  obtain⟨f0,f1,f2,f3,f4,f5⟩:=hf it (by simp)
  refine wpAny_pyNext_tuple_item st (show s.heap.IsTuple a its.toArray from p) (x:=u) (by simpa using hu) λh' st' sb=> ?_
  have I1:Inv X pins σ H { s with heap:=h' }:=I.turned (t':=s.toks) (λb o hb e=>(sb.2 b hb).trans e) f0 f1 f3 f4 f5
  obtain⟨o,e,c,d⟩:=id st'
  exact⟨u,rfl,zv2 (s:={ s with heap:=h' }) e c d (by decide) ⟨x,H,I1,ru,⟨rfl,λys hy=>by rw[I.tuple_inj hy hq];exact hx⟩,st',λb hb=>(hf b hb).1⟩⟩
 done:=by
  intro X hP hw hK hc i pins s σ H E I hf st hg
  subst hP hw hK
  obtain⟨xs,hq,hx⟩:=hg
  obtain⟨its,rv,p,hz⟩:=I.tuple hq
  obtain⟨f0,f1,f2,f3,f4,f5⟩:=hf it (by simp)
  have hl:=rv.length
  exact wpAny_pyNext_tuple_end (I.ok.hd hc) st (show s.heap.IsTuple a its.toArray from p) (by simp;omega) λh' eb=>⟨rfl,I.turned (t':=s.toks) (λb o hb e=>eb b o hb e) f0 f1 f3 f4 f5⟩
 self:=λ_ _ _ _ _ st h=>wpAny_pyIter_tupleiter st h
theorem ztd{P:Program}{w:World}{K:PySem.W.Frag}{tg:Expr}(it:Addr)(lo:Int)(n:Nat):Turn P w K tg (Itr lo n) [it] it (λi h=>IsRangeIter h it (lo+(i:Nat) * 1) ((n:Int) - (i:Nat)) 1) where
  mem:=by simp
  obj := λi h st b hb=>by
    have e:b=it:=by simpa using hb
    subst e
    exact⟨_,st,λv z=>by
      have z':Data.fields _=Data.cell v:=z
      cases z'⟩
  keep:=λi h h' st k=>k it (by simp) _ st
  item:=by
    intro X hP hw hK hc i pins s σ H E I hf st hg
    subst hP hw hK
    obtain⟨f0,f1,f2,f3,f4,f5⟩:=hf it (by simp)
    have W:=Walks.range (prog:=X.prog) (w:=X.w) (I.ok.hd hc) it lo 1 n
    refine W.item i s _ _ hg st λv h' tk hv st' kk=> ?_
    obtain⟨t,rfl⟩:=hv
    have I1:Inv X pins σ H { s with heap:=h',toks:=tk }:=I.turned (λb o hb e=>kk b o (by simpa using hb) e) f0 f1 f3 f4 f5
    refine⟨_,rfl,zv2 (s:={ s with heap:=h',toks:=tk }) (n:="range_iterator") st' rfl rfl (by decide) ⟨.int (lo+i),H,I1,⟨t,?_⟩,⟨rfl,rfl⟩,st',λb hb=>(hf b hb).1⟩⟩
    rw[Int.mul_one]
  done:=by
    intro X hP hw hK hc i pins s σ H E I hf st hg
    subst hP hw hK
    obtain⟨f0,f1,f2,f3,f4,f5⟩:=hf it (by simp)
    exact wpAny_pyNext_range_end (I.ok.hd hc) st (by have:n<=i:=hg;omega) λh' eb=>⟨rfl,I.turned (t':=s.toks) (λb o hb e=>eb b o hb e) f0 f1 f3 f4 f5⟩
  self:=λ_ _ _ _ _ st h=>wpAny_pyIter_rangeiter st h
end L2
namespace L2
open PySem PySem.Spec PyProof.Rows
section
variable{X:Cx}{tg:Expr}
theorem zv3{pins:List (Addr × Obj)}{σ:St}{H:Hp}{s:Shared}{R:It->Hp->Prop}{E:Value->Shared->Prop}{lo hi:Int}{t u v:Tok}{tk:Nat}(I:Inv X pins σ H s)(h1: -(2 ^ 62)<=lo)(h2:lo<2 ^ 62)(h3: -(2 ^ 62)<=hi)(h4:hi<2 ^ 62)
  (q:R (Itr lo (hi - lo).toNat) H):wpAny (model X.prog X.w) X.A (pyIter (.ref s.heap.objs.size)) (PIE X pins σ tg R) E { s with heap:=s.heap.push { cls:=.type "range",data:=.fields #[.int lo t,.int hi u,.int 1 v] },toks:=tk }:=by
 refine wpAny_pyIter_range (IsRange.new ..) (small_one h1 h2 h3 h4) ?_
 have I1:Inv X pins σ H { s with heap:=s.heap.push { cls:=.type "range",data:=.fields #[.int lo t,.int hi u,.int 1 v] },toks:=tk }:=I.kept λb o e=>Heap.get?_push_of_some _ e
 refine⟨(s.heap.push { cls:=.type "range",data:=.fields #[.int lo t,.int hi u,.int 1 v] }).objs.size,[(s.heap.push { cls:=.type "range",data:=.fields #[.int lo t,.int hi u,.int 1 v] }).objs.size],_,_,H,rfl,
  I1.kept (t':=tk) λb o e=>Heap.get?_push_of_some _ e,ztd _ lo (hi - lo).toNat,?_,λb hb=> ?_,q⟩
 ·have e1:lo+((0:Nat):Int) * 1=lo:=by simp
  have e2:(((hi - lo).toNat:Nat):Int) - ((0:Nat):Int)=Builtin.Range.rangeSize lo hi 1:=by rw[rangeSize_one];split<;>omega
  show IsRangeIter _ _ (lo+((0:Nat):Int) * 1) ((((hi - lo).toNat:Nat):Int) - ((0:Nat):Int)) 1
  rw[e1,e2]
  exact Heap.get?_push_size _ rfl
 ·have e:b=(s.heap.push { cls:=.type "range",data:=.fields #[.int lo t,.int hi u,.int 1 v] }).objs.size:=by simpa using hb
  subst e
  exact I1.fpOk (Nat.le_refl _) (I1.hok.fresh (Nat.le_refl _))
def zoy(ta:TA):TI:=λσ H R=>ta σ H λvs H1=>∃ j:Int,vs=[.int j]/\ -(2 ^ 62)<=j/\j<2 ^ 62/\R (Itr 0 j.toNat) H1
def zaad(ta:TA):TI:=λσ H R=>ta σ H λvs H1=>∃ i j:Int,vs=[.int i,.int j]/\(-(2 ^ 62)<=i/\i<2 ^ 62/\ -(2 ^ 62)<=j/\j<2 ^ 62)/\R (Itr i (j - i).toNat) H1
theorem zf3{a:Expr}{ta:TA}{p pos:Pos}(hg:Gl X "range")(hm:X.mg "range"=none)(ha:PA X [a] ta)(hs:starEach [a] X.env=[(false,eval a X.env)]:=by rfl):PI X tg (.Call (.Name "range" p) [a] [] pos) (zoy ta):=by
  intro pins s σ H R I h
  refine Call_ (zp5 I hg hm boot_range (PyProof.Rows.callWith_type1 (thn (ha pos pins s σ H _ I h) λus s1 ⟨vs,H1,I1,r1,q1⟩=> ?_) hs rfl))
  obtain⟨j,e,q1,q2,q⟩:=q1
  subst e
  cases r1 with
  | cons r rr =>
    cases rr
    obtain⟨t,rfl⟩:=r
    exact call_range_1 (zv3 I1 (by omega) (by omega) q1 q2 (by simpa using q))
def tFor(wi:TI)(g:TG)(tb:TS):TS:=λD σ H=>wi σ H λJ H1=>∃ W:Nat->Nat->St->Hp->Prop,(∃ m,W 0 m σ H1)/\∀ i m σ H,W i m σ H →
 (J.stop i H/\D.nx σ H)\/(J.go i H/\∃ N:St->Hp->Prop,(∀ σ' H',N σ' H'->∃ m',m'<m/\W (i+1) m' σ' H')/\∀ x H',J.yld i H x H'->g x σ H' λσ2 H2=>tb { D with nx:=N,ct:=N,bk:=D.nx } σ2 H2)
def zp6(fp:List Addr)(h:Heap):List (Addr × Obj):=fp.filterMap λb=>(h.get? b).map λo=>(b,o)
theorem zhj{fp:List Addr}{h:Heap}{b:Addr}{o:Obj}(hb:b∈fp)(e:h.get? b=some o):(b,o)∈zp6 fp h:=List.mem_filterMap.mpr ⟨b,hb,by rw[e];rfl⟩
theorem zub{fp:List Addr}{h:Heap}{p:Addr × Obj}(hp:p∈zp6 fp h):p.1∈fp/\h.get? p.1=some p.2:=by
  obtain⟨b,hb,e⟩:=List.mem_filterMap.mp hp
  cases q:h.get? b with
  | none=>rw[q]at e;cases e
  | some o =>
    rw[q]at e
    have e':(b,o)=p:=Option.some.inj e
    subst e'
    exact⟨hb,q⟩
theorem Inv.pinned{pins:List (Addr × Obj)}{σ:St}{H:Hp}{s:Shared}{fp:List Addr}(I:Inv X pins σ H s)(hf:∀ b∈fp,FpOk X pins H b)(ho:∀ b∈fp,∃ o,s.heap.get? b=some o/\∀ v,o.data≠.cell v):Inv X (pins++zp6 fp s.heap) σ H s :=
  I.pins_of λp hp=>(List.mem_append.mp hp).elim (λz=>I.pin p (List.mem_append_right _ z)) λz=>by
    obtain⟨hb,e⟩:=zub z
    obtain⟨f0,f1,f2,_⟩:=hf p.1 hb
    obtain⟨o,e',d⟩:=ho p.1 hb
    rw[e]at e';cases e'
    exact⟨e,f0,f1,f2,d⟩
theorem Inv.unpinned{pins pl:List (Addr × Obj)}{σ:St}{H:Hp}{s:Shared}(I:Inv X (pins++pl) σ H s):Inv X pins σ H s:=I.pins_of λp hp=>I.pin p (List.mem_append_right _ (List.mem_append_left _ hp))
theorem zp7{iter:Expr}{body:List Stmt}{wi:TI}{g:TG}{tb:TS}{pos:Pos}(hp:PassesOwn (model X.prog X.w) X.A X.env X.xe)(hc:X.calm=true)(hi:PI X tg iter wi)(hg:PG X tg g)(hb:PSs X body tb)
  (hs:∀ x,foldedSetIterable iter X.env x=pure x:=by intro _;rfl):PS X (.For tg iter body [] pos) (tFor wi g tb):=by
 intro pins s σ H D I h
 refine wpAny_For (thn (hi pins s σ H _ I h) λv s1 h1=>thn h1 λitv s2 h2=> ?_) hs
 obtain⟨it,fp,tn,J,H2,e,I2,T,st2,f2,W,⟨m0,w0⟩,turn⟩:=h2
 subst e
 have stat:∀ {H':Hp},(∀ b∈fp,H' b=none)->∀ b∈fp,FpOk X pins H' b:=λhn b hb=>⟨hn b hb,(f2 b hb).2⟩
 refine codeAny_forLoop_any (λn s'=>∃ i σ' H',Inv X pins σ' H' s'/\tn i s'.heap/\(∀ b∈fp,H' b=none)/\W i n σ' H') ?_ m0 ⟨0,σ,H2,I2,st2,λb hb=>(f2 b hb).1,w0⟩
 rintro n s3 ⟨i,σ3,H3,I3,st3,fr3,w3⟩
 rcases turn i n σ3 H3 w3 with⟨stop,qn⟩ | ⟨go,N,hN,step⟩
 ·refine wpAny_passesOwn hp (thn (T.done X rfl rfl rfl hc i pins s3 σ3 H3 X.xe I3 (stat fr3) st3 stop) λr s4 ⟨hr,I4⟩=> ?_)
  subst hr
  exact wpAny_execs_nil ⟨σ3,H3,I4,qn⟩
 ·refine wpAny_passesOwn hp (thn (T.item X rfl rfl rfl hc i pins s3 σ3 H3 X.xe I3 (stat fr3) st3 go) λr s4 ⟨u,hr,h4⟩=> ?_)
  subst hr
  refine wpAny_passesOwn hp (thn h4 λ_ s5 ⟨x,H5,I5,r5,y5,st5,fr5⟩=> ?_)
  have I5':=I5.pinned (stat fr5) (T.obj _ _ st5)
  refine wpAny_passesOwn hp (thn (hg _ s5 σ3 H5 x u _ I5' r5 (step x H5 y5)) λ_ s6 ⟨σ6,H6,I6,q6⟩=> ?_)
  refine wpAny_passesOwn hp (thn (hb _ s6 σ6 H6 _ I6 q6) λf s7 q7=> ?_)
  have again:∀ {σ7:St} {H7:Hp},Inv X (pins++zp6 fp s5.heap) σ7 H7 s7->N σ7 H7->∃ m,m<n/\∃ i σ' H',Inv X pins σ' H' s7/\tn i s7.heap/\(∀ b∈fp,H' b=none)/\W i m σ' H':=λ{σ7 H7} I7 n7=>by
   obtain⟨m',hm,w7⟩:=hN σ7 H7 n7
   refine⟨m',hm,i+1,σ7,H7,I7.unpinned,T.keep _ _ _ st5 λb hb o e=>(I7.pin (b,o) (List.mem_append_right _ (List.mem_append_right _ (zhj hb e)))).1,λb hb=> ?_,w7⟩
   obtain⟨o,e,d⟩:=T.obj _ _ st5 b hb
   exact(I7.pin (b,o) (List.mem_append_right _ (List.mem_append_right _ (zhj hb e)))).2.1
  cases f with
  | next=>obtain⟨σ7,H7,I7,n7⟩:=q7;exact again I7 n7
  | cont=>obtain⟨σ7,H7,I7,n7⟩:=q7;exact again I7 n7
  | brk=>obtain⟨σ7,H7,I7,q7⟩:=q7;exact⟨σ7,H7,I7.unpinned,q7⟩
  | ret v=>obtain⟨x7,σ7,H7,I7,r7,q7⟩:=q7;exact⟨x7,σ7,H7,I7.unpinned,r7,q7⟩
end
theorem zv4{K:PySem.W.Frag}{a:Addr}{xs:List V}{g:TG}{tb:TS}{D:Ends}{σ:St}{H:Hp}(Pv:Nat->St->Hp->Prop)(h0:Pv 0 σ H)(hl:∀ i σ H,i<=xs.length->Pv i σ H->SqL K H a xs)
    (hs:∀ i x σ H,xs[i]? =some x->Pv i σ H->g x σ H λσ2 H2=>tb { D with nx:=Pv (i+1),ct:=Pv (i+1),bk:=D.nx } σ2 H2) (hd:∀ σ H,Pv xs.length σ H->D.nx σ H) :
    ∃ W:Nat->Nat->St->Hp->Prop,(∃ m,W 0 m σ H)/\∀ i m σ H,W i m σ H →
      ((Itl K a).stop i H/\D.nx σ H)\/((Itl K a).go i H/\∃ N:St->Hp->Prop,(∀ σ' H',N σ' H'->∃ m',m'<m/\W (i+1) m' σ' H')/\∀ x H',(Itl K a).yld i H x H'->g x σ H' λσ2 H2=>tb { D with nx:=N,ct:=N,bk:=D.nx } σ2 H2):=by
  refine⟨λi m σ H=>m=xs.length - i/\i<=xs.length/\Pv i σ H,⟨xs.length,by simp,Nat.zero_le _,h0⟩,?_⟩
  rintro i m σ H ⟨rfl,hi,p⟩
  have q:=hl i σ H hi p
  by_cases hlt:i<xs.length
  · refine .inr ⟨⟨xs,xs[i],q,by simp[hlt]⟩,Pv (i+1),λσ' H' p'=>⟨xs.length - (i+1),by omega,rfl,hlt,p'⟩,λx H' y=> ?_⟩
    obtain⟨e,y⟩:=y
    subst e
    exact hs i x σ _ (y xs q) p
  · have e:i=xs.length:=by omega
    subst e
    exact .inl ⟨⟨xs,q,Nat.le_refl _⟩,hd σ H p⟩
theorem zuc{lo:Int}{n:Nat}{g:TG}{tb:TS}{D:Ends}{σ:St}{H:Hp}(Pv:Nat->St->Hp->Prop)(h0:Pv 0 σ H)
    (hs:∀ i σ H,i<n->Pv i σ H->g (.int (lo+i)) σ H λσ2 H2=>tb { D with nx:=Pv (i+1),ct:=Pv (i+1),bk:=D.nx } σ2 H2) (hd:∀ σ H,Pv n σ H->D.nx σ H) :
    ∃ W:Nat->Nat->St->Hp->Prop,(∃ m,W 0 m σ H)/\∀ i m σ H,W i m σ H →
      ((Itr lo n).stop i H/\D.nx σ H)\/((Itr lo n).go i H/\∃ N:St->Hp->Prop,(∀ σ' H',N σ' H'->∃ m',m'<m/\W (i+1) m' σ' H')/\∀ x H',(Itr lo n).yld i H x H'->g x σ H' λσ2 H2=>tb { D with nx:=N,ct:=N,bk:=D.nx } σ2 H2):=by
  refine⟨λi m σ H=>m=n - i/\i<=n/\Pv i σ H,⟨n,by simp,Nat.zero_le _,h0⟩,?_⟩
  rintro i m σ H ⟨rfl,hi,p⟩
  by_cases hlt:i<n
  · refine .inr ⟨hlt,Pv (i+1),λσ' H' p'=>⟨n - (i+1),by omega,rfl,hlt,p'⟩,λx H' y=> ?_⟩
    obtain⟨e,y⟩:=y
    subst e y
    exact hs i σ _ hlt p
  · have e:i=n:=by omega
    subst e
    exact .inl ⟨Nat.le_refl _,hd σ H p⟩
end L2
namespace L2
open PySem PySem.Spec PyProof.Rows
abbrev R2:=V->V->Hp->VK->Prop
def OpR (X:Cx) (f:Value->Value->Sem Value) (r:R2):Prop :=
  ∀ (pins:List (Addr × Obj)) (s:Shared) (σ:St) (H:Hp) (x y:V) (v u:Value) (Q:VK),Inv X pins σ H s->RelV x v->RelV y u->r x y H Q →
    wpAny (model X.prog X.w) X.A (f v u) (EP X pins σ Q) X.xe s
def CallR (X:Cx) (f:Value) (r:List V->Hp->VK->Prop):Prop :=
  ∀ (pins:List (Addr × Obj)) (s:Shared) (σ:St) (H:Hp) (xs:List V) (us:List Value) (Q:VK),Inv X pins σ H s->Vals xs us->r xs H Q →
    wpAny (model X.prog X.w) X.A (call f us) (EP X pins σ Q) X.xe s
def TruR (X:Cx) (r:V->Hp->(Bool->Hp->Prop)->Prop):Prop :=
  ∀ (pins:List (Addr × Obj)) (s:Shared) (σ:St) (H:Hp) (x:V) (v:Value) (Q:Bool->Hp->Prop),Inv X pins σ H s->RelV x v->r x H Q →
    wpAny (model X.prog X.w) X.A (truthy v) (TP X pins σ Q) X.xe s
def tOp(r:R2)(ta tb:TE):TE:=λσ H Q=>ta σ H λx H1=>tb σ H1 λy H2=>r x y H2 Q
def tUn(r:V->Hp->VK->Prop)(ta:TE):TE:=λσ H Q=>ta σ H λx H1=>r x H1 Q
def rI(C:Int->Int->Prop)(g:Int->Int->V):R2:=λx y H Q=>∃ i j,x=.int i/\y=.int j/\C i j/\Q (g i j) H
def rI0(g:Int->Int->V):R2:=λx y H Q=>∃ i j,x=.int i/\y=.int j/\Q (g i j) H
def rU(g:Int->V):V->Hp->VK->Prop:=λx H Q=>∃ i,x=.int i/\Q (g i) H
section
variable{X:Cx}{a b c:Expr}{ta tb tc:TE}{pos:Pos}
theorem binT(ha:PE X a ta)(hb:PE X b tb){pins:List (Addr × Obj)}{s:Shared}{σ:St}{H:Hp}{R:V->V->Hp->Prop}(I:Inv X pins σ H s)
  (h:ta σ H λx H1=>tb σ H1 λy H2=>R x y H2) {Q:Value->Shared->Prop} {f:Value->Value->Sem Value}
  (hf:∀ v u s2 x y H2,Inv X pins σ H2 s2->RelV x v->RelV y u->R x y H2->wpAny (model X.prog X.w) X.A (f v u) Q X.xe s2) :
  wpAny (model X.prog X.w) X.A (eval a X.env) (λv s₁=>wpAny (model X.prog X.w) X.A (eval b X.env) (λu s₂=>wpAny (model X.prog X.w) X.A (f v u) Q X.xe s₂) X.xe s₁) X.xe s:=by
 refine thn (ha pins s σ H _ I h) λv s1 ⟨x,H1,I1,r1,q1⟩=> ?_
 refine thn (hb pins s1 σ H1 _ I1 q1) λu s2 ⟨y,H2,I2,r2,q2⟩=> ?_
 exact hf v u s2 x y H2 I2 r1 r2 q2
theorem zbx{op:Operator}{r:R2}(ho:OpR X (binaryOp op) r)(ha:PE X a ta)(hb:PE X b tb):PE X (.BinOp a op b pos) (tOp r ta tb):=by
 intro pins s σ H Q I h
 exact wpAny_BinOp (binT ha hb I h λv u s2 x y H2 I2 rx ry q=>ho pins s2 σ H2 x y v u Q I2 rx ry q)
theorem opI{f:Value->Value->Sem Value}{C:Int->Int->Prop}{g:Int->Int->Int}
  (rule:∀ (i j:Int) (t u:Tok) (s:Shared) (Q:Value->Shared->Prop) (E:Value->Shared->Prop),C i j->Q (.int (g i j) s.toks) { s with toks:=s.toks+1 }->wpAny (model X.prog X.w) X.A (f (.int i t) (.int j u)) Q E s) :
  OpR X f (rI C λi j=>.int (g i j)):=by
 intro pins s σ H x y v u Q I rx ry h
 obtain⟨i,j,rfl,rfl,hc,q⟩:=h
 obtain⟨t,rfl⟩:=rx
 obtain⟨t',rfl⟩:=ry
 exact rule i j t t' s _ _ hc ⟨.int (g i j),H,I.tok _,⟨_,rfl⟩,q⟩
theorem opI0{f:Value->Value->Sem Value}{g:Int->Int->Int}
  (rule:∀ (i j:Int) (t u:Tok) (s:Shared) (Q:Value->Shared->Prop) (E:Value->Shared->Prop),Q (.int (g i j) s.toks) { s with toks:=s.toks+1 }->wpAny (model X.prog X.w) X.A (f (.int i t) (.int j u)) Q E s) :
  OpR X f (rI0 λi j=>.int (g i j)):=by
 intro pins s σ H x y v u Q I rx ry h
 obtain⟨i,j,rfl,rfl,q⟩:=h
 obtain⟨t,rfl⟩:=rx
 obtain⟨t',rfl⟩:=ry
 exact rule i j t t' s _ _ ⟨.int (g i j),H,I.tok _,⟨_,rfl⟩,q⟩
theorem opB0{f:Value->Value->Sem Value}{g:Int->Int->Bool}
  (rule:∀ (i j:Int) (t u:Tok) (s:Shared) (Q:Value->Shared->Prop) (E:Value->Shared->Prop),Q (.bool (g i j)) s->wpAny (model X.prog X.w) X.A (f (.int i t) (.int j u)) Q E s) :
  OpR X f (rI0 λi j=>.bl (g i j)):=by
 intro pins s σ H x y v u Q I rx ry h
 obtain⟨i,j,rfl,rfl,q⟩:=h
 obtain⟨t,rfl⟩:=rx
 obtain⟨t',rfl⟩:=ry
 exact rule i j t t' s _ _ ⟨.bl (g i j),H,I,rfl,q⟩
def CDiv(i j:Int):Prop:=0<j/\j<1073741824
def CPow(i j:Int):Prop:=0<=j/\j<=1000000/\i.natAbs<2 ^ 64
def CMul(i j:Int):Prop:=(-(2 ^ 64)<i/\i<2 ^ 64)\/(-(2 ^ 64)<j/\j<2 ^ 64)
theorem CMul.ok{i j:Int}(h:CMul i j):IntMulOk i j:=by
 rcases h with⟨h1,h2⟩ | ⟨h1,h2⟩
 ·exact .of_left (intBits_le_64 h1 h2)
 ·exact .of_right (intBits_le_64 h1 h2)
theorem zaae:OpR X (binaryOp .Add) (rI0 λi j=>.int (i+j)):=opI0 λ_ _ _ _ _ _ _ q=>add_int q
theorem zaaf:OpR X (binaryOp .Mult) (rI CMul λi j=>.int (i * j)):=opI λ_ _ _ _ _ _ _ hc q=>mul_int q hc.ok
theorem zh7:OpR X (binaryOp .FloorDiv) (rI CDiv λi j=>.int (i / j)):=opI λi j _ _ _ _ _ hc q=>by
 have h1:(0:Int)<j:=hc.1
 have h2:j<1073741824:=hc.2
 exact floordiv_int (by omega) (by rw[Int.fdiv_eq_ediv_of_nonneg i (by omega)];exact q) (.inl (PyProof.noPylong_small (by omega)))
theorem zg0:OpR X (binaryOp .Mod) (rI (λ_ j=>0<j) λi j=>.int (i % j)):=opI λi j _ _ _ _ _ hc q=>by
 have h1:(0:Int)<j:=hc
 exact mod_int' (by omega) (by rw[Int.fmod_eq_emod_of_nonneg i (by omega)];exact q)
end
def scal:V->V->Bool
 | .non,.non=>true | .non,.int _=>true | .int _,.non=>true | .non,.bl _=>true | .bl _,.non=>true | .non,.str _=>true | .str _,.non=>true
 | .int _,.int _=>true | .bl _,.bl _=>true | .str _,.str _=>true | .byt _,.byt _=>true
 | .int _,.str _=>true | .str _,.int _=>true | .bl _,.str _=>true | .str _,.bl _=>true
 | _,_=>false
def rEq:R2:=λx y H Q=>scal x y=true/\Q (.bl (decide (x=y))) H
def rNe:R2:=λx y H Q=>scal x y=true/\Q (.bl (!decide (x=y))) H
theorem zud{i j:Int}:decide (V.int i=V.int j)=(i == j):=by
 rw[Bool.eq_iff_iff]
 simp
theorem zxo{i j:Bool}:decide (V.bl i=V.bl j)=(i == j):=by
 rw[Bool.eq_iff_iff]
 simp
theorem zue{i j:Str}:decide (V.str i=V.str j)=(i == j):=by
 rw[Bool.eq_iff_iff]
 simp
theorem zuf{i j:Array UInt8}:decide (V.byt i=V.byt j)=(i.toList == j.toList):=by
 rw[Bool.eq_iff_iff]
 cases i
 cases j
 simp
section
variable{X:Cx}{a b c:Expr}{ta tb tc:TE}{pos:Pos}
theorem zb3{pins:List (Addr × Obj)}{σ:St}{H:Hp}{s:Shared}{Q:VK}{k k':Bool}(I:Inv X pins σ H s)(q:Q (.bl k) H)(e:k=k'):EP X pins σ Q (.bool k') s:=by
 subst e
 exact⟨.bl k,H,I,rfl,q⟩
theorem zacd:OpR X (compareOp .Eq) rEq:=by
  intro pins s σ H x y v u Q I rx ry h
  obtain⟨hs,q⟩:=h
  cases x with
  | non =>
    cases rx
    cases y with
    | non=>cases ry;exact PySem.EqNone.eq_none_none (zb3 I q (by simp))
    | bl j=>cases ry;exact PySem.EqNone.eq_none_bool (zb3 I q (by simp))
    | int j=>obtain⟨t',rfl⟩:=ry;exact PySem.EqNone.eq_none_int (zb3 I q (by simp))
    | str j=>obtain⟨t',rfl⟩:=ry;exact PySem.EqNone.eq_none_str (zb3 I q (by simp))
    | _=>exact absurd (show false=true from hs) Bool.false_ne_true
  | bl i =>
    cases rx
    cases y with
    | non=>cases ry;exact PySem.EqNone.eq_bool_none (zb3 I q (by simp))
    | bl j=>cases ry;exact eq_bool (zb3 I q zxo)
    | str j=>obtain⟨t',rfl⟩:=ry;exact PySem.EqMixed.eq_bool_str (zb3 I q (by simp))
    | _=>exact absurd (show false=true from hs) Bool.false_ne_true
  | int i =>
    obtain⟨t,rfl⟩:=rx
    cases y with
    | non=>cases ry;exact PySem.EqNone.eq_int_none (zb3 I q (by simp))
    | int j=>obtain⟨t',rfl⟩:=ry;exact eq_int (zb3 I q zud)
    | str j=>obtain⟨t',rfl⟩:=ry;exact PySem.EqMixed.eq_int_str (zb3 I q (by simp))
    | _=>exact absurd (show false=true from hs) Bool.false_ne_true
  | str i =>
    obtain⟨t,rfl⟩:=rx
    cases y with
    | non=>cases ry;exact PySem.EqNone.eq_str_none (zb3 I q (by simp))
    | bl j=>cases ry;exact PySem.EqMixed.eq_str_bool (zb3 I q (by simp))
    | int j=>obtain⟨t',rfl⟩:=ry;exact PySem.EqMixed.eq_str_int (zb3 I q (by simp))
    | str j=>obtain⟨t',rfl⟩:=ry;exact eq_str (zb3 I q zue)
    | _=>exact absurd (show false=true from hs) Bool.false_ne_true
  | byt i =>
    obtain⟨t,rfl⟩:=rx
    cases y with
    | byt j=>obtain⟨t',rfl⟩:=ry;exact PySem.W.eq_bytes (zb3 I q zuf)
    | _=>exact absurd (show false=true from hs) Bool.false_ne_true
  | _=>cases y<;>exact absurd (show false=true from hs) Bool.false_ne_true
theorem zace:OpR X (compareOp .NotEq) rNe:=by
  intro pins s σ H x y v u Q I rx ry h
  obtain⟨hs,q⟩:=h
  cases x with
  | non =>
    cases rx
    cases y with
    | non=>cases ry;exact PySem.EqNone.ne_none_none (zb3 I q (by simp))
    | bl j=>cases ry;exact PySem.EqNone.ne_none_bool (zb3 I q (by simp))
    | int j=>obtain⟨t',rfl⟩:=ry;exact PySem.EqNone.ne_none_int (zb3 I q (by simp))
    | str j=>obtain⟨t',rfl⟩:=ry;exact PySem.EqNone.ne_none_str (zb3 I q (by simp))
    | _=>exact absurd (show false=true from hs) Bool.false_ne_true
  | bl i =>
    cases rx
    cases y with
    | non=>cases ry;exact PySem.EqNone.ne_bool_none (zb3 I q (by simp))
    | bl j=>cases ry;exact ne_bool (zb3 I q (congrArg not zxo))
    | str j=>obtain⟨t',rfl⟩:=ry;exact PySem.EqMixed.ne_bool_str (zb3 I q (by simp))
    | _=>exact absurd (show false=true from hs) Bool.false_ne_true
  | int i =>
    obtain⟨t,rfl⟩:=rx
    cases y with
    | non=>cases ry;exact PySem.EqNone.ne_int_none (zb3 I q (by simp))
    | int j=>obtain⟨t',rfl⟩:=ry;exact ne_int (zb3 I q (congrArg not zud))
    | str j=>obtain⟨t',rfl⟩:=ry;exact PySem.EqMixed.ne_int_str (zb3 I q (by simp))
    | _=>exact absurd (show false=true from hs) Bool.false_ne_true
  | str i =>
    obtain⟨t,rfl⟩:=rx
    cases y with
    | non=>cases ry;exact PySem.EqNone.ne_str_none (zb3 I q (by simp))
    | bl j=>cases ry;exact PySem.EqMixed.ne_str_bool (zb3 I q (by simp))
    | int j=>obtain⟨t',rfl⟩:=ry;exact PySem.EqMixed.ne_str_int (zb3 I q (by simp))
    | str j=>obtain⟨t',rfl⟩:=ry;exact ne_str (zb3 I q (congrArg not zue))
    | _=>exact absurd (show false=true from hs) Bool.false_ne_true
  | byt i =>
    obtain⟨t,rfl⟩:=rx
    cases y with
    | byt j=>obtain⟨t',rfl⟩:=ry;exact PySem.W.ne_bytes (zb3 I q (congrArg not zuf))
    | _=>exact absurd (show false=true from hs) Bool.false_ne_true
  | _=>cases y<;>exact absurd (show false=true from hs) Bool.false_ne_true
theorem zacf:OpR X (compareOp .Lt) (rI0 λi j=>.bl (decide (i<j))):=opB0 λ_ _ _ _ _ _ _ q=>lt_int q
theorem zacg:OpR X (compareOp .LtE) (rI0 λi j=>.bl (decide (i<=j))):=opB0 λ_ _ _ _ _ _ _ q=>le_int q
theorem zxp:OpR X (compareOp .Is) (λx y H Q=>y=.non/\Q (.bl (decide (x=.non))) H):=by
 intro pins s σ H x y v u Q I rx ry h
 obtain⟨rfl,q⟩:=h
 cases ry
 refine is_none_gen (zb3 I q ?_)
 cases x<;>first
  | (cases rx;rfl)
  | (obtain⟨t,rfl⟩:=rx;rfl)
theorem zrr:OpR X (compareOp .IsNot) (λx y H Q=>y=.non/\Q (.bl (!decide (x=.non))) H):=by
 intro pins s σ H x y v u Q I rx ry h
 obtain⟨rfl,q⟩:=h
 cases ry
 refine isnot_none_gen (zb3 I q ?_)
 cases x<;>first
  | (cases rx;rfl)
  | (obtain⟨t,rfl⟩:=rx;rfl)
theorem OpR.or{f:Value->Value->Sem Value}{r r':R2}(h:OpR X f r)(h':OpR X f r'):OpR X f (λx y H Q=>r x y H Q\/r' x y H Q):=by
 intro pins s σ H x y v u Q I rx ry q
 rcases q with q | q
 ·exact h pins s σ H x y v u Q I rx ry q
 ·exact h' pins s σ H x y v u Q I rx ry q
theorem ze5(b:Expr){op:CmpOp}(h:op≠.In:=by decide)(h2:op≠.NotIn:=by decide):behindInMarks op b=false:=by
 have e1:(op == CmpOp.In)=false:=by cases op<;>first | rfl | exact absurd rfl h
 have e2:(op == CmpOp.NotIn)=false:=by cases op<;>first | rfl | exact absurd rfl h2
 cases b<;>simp[behindInMarks,e1,e2]
theorem zx2{op:CmpOp}{r:R2}(ho:OpR X (compareOp op) r)(ha:PE X a ta)(hb:PE X b tb)(hm:behindInMarks op b=false):PE X (.Compare a [op] [b] pos) (tOp r ta tb):=by
 intro pins s σ H Q I h
 exact wpAny_Compare1 (binT ha hb I h λv u s2 x y H2 I2 rx ry q=>ho pins s2 σ H2 x y v u Q I2 rx ry q) hm
def zfe(t:TE):TT:=λσ H Q=>t σ H λx H'=>∃ k,x=.bl k/\Q k H'
theorem zdr{op:CmpOp}{r:R2}(ho:OpR X (compareOp op) r)(ha:PE X a ta)(hb:PE X b tb)(hm:behindInMarks op b=false):PT X (.Compare a [op] [b] pos) (zfe (tOp r ta tb)):=by
 intro pins s σ H Q I h
 refine wpAny_isTrue_Compare1 (thn (ha pins s σ H _ I h) λv s1 ⟨x,H1,I1,r1,q1⟩=>thn (hb pins s1 σ H1 _ I1 q1) λu s2 ⟨y,H2,I2,r2,q2⟩ =>
  thn (ho pins s2 σ H2 x y v u _ I2 r1 r2 q2) λc s3 ⟨z,H3,I3,r3,k,e,q3⟩=> ?_) hm
 subst e
 cases r3
 exact wpAny_truthy_bool ⟨H3,I3,q3⟩
def zji(r r':R2)(ta tb tc:TE):TE:=λσ H Q=>ta σ H λx H1=>tb σ H1 λy H2=>r x y H2 λz H3=>∃ k,z=.bl k ∧
 (if k=true then tc σ H3 λw' H4=>r' y w' H4 Q else Q (.bl false) H3)
theorem zsq{op op':CmpOp}{r r':R2}(ho:OpR X (compareOp op) r)(ho':OpR X (compareOp op') r')(ha:PE X a ta)(hb:PE X b tb)(hc:PE X c tc)
  (hm:lastMarks [op,op'] [b,c]=false:=by with_unfolding_all rfl):PE X (.Compare a [op,op'] [b,c] pos) (zji r r' ta tb tc):=by
 intro pins s σ H Q I h
 refine Compare_chain (thn (ha pins s σ H _ I h) λv s1 ⟨x,H1,I1,r1,q1⟩=>chain_link (thn (hb pins s1 σ H1 _ I1 q1) λu s2 ⟨y,H2,I2,r2,q2⟩ =>
  thn (ho pins s2 σ H2 x y v u _ I2 r1 r2 q2) λd s3 ⟨z,H3,I3,r3,k,e,q3⟩=> ?_)) hm
 subst e
 cases r3
 refine wpAny_truthy_bool ?_
 cases k with
 | false=>exact ite_ff ⟨.bl false,H3,I3,rfl,q3⟩
 | true=>exact ite_tt (chain_last (thn (hc pins s3 σ H3 _ I3 q3) λw' s4 ⟨z',H4,I4,r4,q4⟩=>ho' pins s4 σ H4 y z' u w' Q I4 r2 r4 q4))
theorem zmf{op op':CmpOp}{r r':R2}(ho:OpR X (compareOp op) r)(ho':OpR X (compareOp op') r')(ha:PE X a ta)(hb:PE X b tb)(hc:PE X c tc)
    (hm:lastMarks [op,op'] [b,c]=false:=by with_unfolding_all rfl):PT X (.Compare a [op,op'] [b,c] pos) (zfe (zji r r' ta tb tc)):=by
  intro pins s σ H Q I h
  refine isTrue_chain (thn (ha pins s σ H _ I h) λv s1 ⟨x,H1,I1,r1,q1⟩=>test_link (thn (hb pins s1 σ H1 _ I1 q1) λu s2 ⟨y,H2,I2,r2,q2⟩ =>
    thn (ho pins s2 σ H2 x y v u _ I2 r1 r2 q2) λd s3 ⟨z,H3,I3,r3,k,e,q3⟩=> ?_)) hm
  subst e
  cases r3
  refine wpAny_truthy_bool ?_
  cases k with
  | false =>
    obtain⟨k',e',q'⟩:=q3
    cases e'
    exact ite_ff ⟨H3,I3,q'⟩
  | true =>
    refine ite_tt (test_last (thn (hc pins s3 σ H3 _ I3 q3) λw' s4 ⟨z',H4,I4,r4,q4⟩=>thn (ho' pins s4 σ H4 y z' u w' _ I4 r2 r4 q4) λd' s5 ⟨z2,H5,I5,r5,k2,e2,q5⟩=> ?_))
    subst e2
    cases r5
    exact wpAny_truthy_bool ⟨H5,I5,q5⟩
def TruV(K:PySem.W.Frag)(x:V)(H:Hp)(k:Bool):Prop :=
 match x with
 | .non=>k=false
 | .bl b=>k=b
 | .int i=>k=(i != 0)
 | .str y=>y.length<=sizeLine/\k=((y.length:Int) != 0)
 | .byt y=>y.size<=sizeLine/\k=((y.size:Int) != 0)
 | .ref p=>(∃ xs,SqL K H p xs/\k= !xs.isEmpty)\/(∃ xs,SqT K H p xs/\k= !xs.isEmpty)\/∃ kvs,H p=some (.dK kvs)/\k= !kvs.isEmpty
 | _=>False
theorem zte{κ :Type}{kvs:List (κ × V)}{vs:List (κ × Value)}(r:KV kvs vs):(!vs.isEmpty)= !kvs.isEmpty:=by
 cases r<;>rfl
theorem zok{xs:List V}{its:List Value}(r:Vals xs its):(!its.toArray.isEmpty)= !xs.isEmpty:=by
 cases r<;>simp
theorem zp8:(sizeLine:Nat)<2 ^ 63:=by rw[sizeLine_eq];decide
theorem zaag:TruR X (λx H Q=>∃ k,TruV X.K x H k/\Q k H):=by
  intro pins s σ H x v Q I rx h
  obtain⟨k,e,q⟩:=h
  have hl:=zp8
  have hs:sizeLine=16777216:=sizeLine_eq
  cases x with
  | non =>
    cases rx
    have e':k=false:=e
    subst e'
    exact truthy_none ⟨H,I,q⟩
  | bl b =>
    cases rx
    have e':k=b:=e
    subst e'
    exact wpAny_truthy_bool ⟨H,I,q⟩
  | int i =>
    obtain⟨t,rfl⟩:=rx
    have e':k=(i != 0):=e
    subst e'
    exact PySem.P.truthy_int ⟨H,I,q⟩
  | str y =>
    obtain⟨t,rfl⟩:=rx
    obtain⟨hy,e'⟩:y.length<=sizeLine/\k=((y.length:Int) != 0):=e
    subst e'
    exact PySem.P.truthy_str (by omega) ⟨H,I.tok _,q⟩
  | byt y =>
    obtain⟨t,rfl⟩:=rx
    obtain⟨hy,e'⟩:y.size<=sizeLine/\k=((y.size:Int) != 0):=e
    subst e'
    exact PySem.W.truthy_bytes (by omega) ⟨H,I.tok _,q⟩
  | ref p =>
    cases rx
    have e':(∃ xs,SqL X.K H p xs/\k= !xs.isEmpty)\/(∃ xs,SqT X.K H p xs/\k= !xs.isEmpty)\/∃ kvs,H p=some (.dK kvs)/\k= !kvs.isEmpty:=e
    rcases e' with⟨xs,hx,e'⟩ | ⟨xs,hx,e'⟩ | ⟨kvs,hx,e'⟩
    · subst e'
      obtain⟨its,r,pl,hz⟩:=I.list hx
      have hlen:=r.length
      exact wpAny_truthy_list pl.isList (by simp only[List.size_toArray];omega) ⟨H,I.tok _,by rw[zok r];exact q⟩
    · subst e'
      obtain⟨its,r,pl,hz⟩:=I.tuple hx
      have hlen:=r.length
      exact truthy_tuple pl (by simp only[List.size_toArray];omega) ⟨H,I.tok _,by rw[zok r];exact q⟩
    · subst e'
      obtain⟨hz,hS,vs,r,m⟩:kvs.length<=sizeLine/\(p == sysModules)=false/\∃ vs,KV kvs vs/\s.heap.DictOf (zdq X.prog X.w) p vs:=I.hok p _ hx
      have hlen:kvs.length=vs.length:=Paired.length r
      exact wpAny_truthy_dict hS m (by omega) ⟨H,I.tok _,by rw[zte r];exact q⟩
  | _=>exact(show False from e).elim
theorem zjj(ha:PE X a ta)(he:∀ whole,isTrue a X.env whole=(do let v ← whole;standAt a.pos;holding [v] (truthy v))) :
  PT X a (λσ H Q=>ta σ H λx H'=>∃ k,TruV X.K x H' k/\Q k H'):=by
 intro pins s σ H Q I h
 exact isTrue_plain (thn (ha pins s σ H _ I h) λv s1 ⟨x,H1,I1,r1,q1⟩=>zaag pins s1 σ H1 x v Q I1 r1 q1) (he _)
theorem ztf:OpR X (binaryOp .Add) (λx y H Q=>∃ i j,x=.str i/\y=.str j/\i.length+j.length<=sizeLine/\Q (.str (i++j)) H):=by
 intro pins s σ H x y v u Q I rx ry h
 obtain⟨i,j,rfl,rfl,hz,q⟩:=h
 obtain⟨t,rfl⟩:=rx
 obtain⟨t',rfl⟩:=ry
 exact add_str (λt' tk=>⟨.str (i++j),H,I.tok _,⟨_,rfl⟩,q⟩) hz
theorem zp9{x:V}{us:List Value}(r:Vals [x] us):∃ u,us=[u]/\RelV x u:=by
 cases r with
 | cons r1 r2=>cases r2;exact⟨_,rfl,r1⟩
theorem zach{x y:V}{us:List Value}(r:Vals [x,y] us):∃ u w',us=[u,w']/\RelV x u/\RelV y w':=by
  cases r with
  | cons r1 r2 =>
    cases r2 with
    | cons r3 r4=>cases r4;exact⟨_,_,rfl,r1,r3⟩
theorem zug(hc:X.calm=true):CallR X (.builtin "min") (λxs H Q=>∃ i j,xs=[.int i,.int j]/\Q (.int (if j<i then j else i)) H):=by
 intro pins s σ H xs us Q I r h
 obtain⟨i,j,rfl,q⟩:=h
 obtain⟨u,w',rfl,⟨t,rfl⟩,⟨t',rfl⟩⟩:=zach r
 refine min_two_ints (I.ok.hd hc) λh' tk k=>⟨_,H,I.kept k,?_,q⟩
 by_cases hj:j<i
 ·rw[if_pos hj,if_pos hj];exact⟨_,rfl⟩
 ·rw[if_neg hj,if_neg hj];exact⟨_,rfl⟩
def LenV(K:PySem.W.Frag)(x:V)(H:Hp)(n:Nat):Prop :=
 match x with
 | .str y=>y.length<=sizeLine/\n=y.length
 | .byt y=>y.size<=sizeLine/\n=y.size
 | .ref p=>(∃ xs,SqL K H p xs/\n=xs.length)\/∃ xs,SqT K H p xs/\n=xs.length
 | _=>False
theorem zv5:CallR X (.builtin "len") (λxs H Q=>∃ x n,xs=[x]/\LenV X.K x H n/\Q (.int n) H):=by
  intro pins s σ H xs us Q I r h
  obtain⟨x,n,rfl,e,q⟩:=h
  obtain⟨u,rfl,rx⟩:=zp9 r
  have hl:=zp8
  have hs:sizeLine=16777216:=sizeLine_eq
  cases x with
  | str y =>
    obtain⟨t,rfl⟩:=rx
    obtain⟨hy,e'⟩:y.length<=sizeLine/\n=y.length:=e
    subst e'
    exact len_str (by omega) ⟨.int _,H,I.tok _,⟨_,rfl⟩,q⟩
  | byt y =>
    obtain⟨t,rfl⟩:=rx
    obtain⟨hy,e'⟩:y.size<=sizeLine/\n=y.size:=e
    subst e'
    exact PySem.W.len_bytes (by omega) ⟨.int _,H,I.tok _,⟨_,rfl⟩,q⟩
  | ref p =>
    cases rx
    have e':(∃ xs,SqL X.K H p xs/\n=xs.length)\/∃ xs,SqT X.K H p xs/\n=xs.length:=e
    rcases e' with⟨xs,hx,e'⟩ | ⟨xs,hx,e'⟩
    · subst e'
      obtain⟨its,r',pl,hz⟩:=I.list hx
      have hlen:=r'.length
      exact Calls.call_len_list pl.isList (by simp only[List.size_toArray];omega) ⟨.int xs.length,H,I.tok _,⟨_,by simp only[List.size_toArray];rw[hlen]⟩,q⟩
    · subst e'
      obtain⟨its,r',pl,hz⟩:=I.tuple hx
      have hlen:=r'.length
      exact len_tuple pl (by simp only[List.size_toArray];omega) ⟨.int xs.length,H,I.tok _,⟨_,by simp only[List.size_toArray];rw[hlen]⟩,q⟩
  | _=>exact(show False from e).elim
end
end L2
namespace L2
open PySem PySem.Spec PyProof.Rows
structure ObjM(h:Heap)(x dx C:Addr)(mA:Str->Option Value):Prop where
 obj:h.get? x=some (PySem.W.instObj C dx)
 ns:h.Ns1 dx mA
 ne:dx≠x
theorem zuh{h:Heap}{dx:Addr}{mA:Str->Option Value}(n:h.Ns1 dx mA):∃ od,h.get? dx=some od/\∀ name,PySem.W.lookIn name od=some (mA name):=by
 obtain⟨o,es,ep,ho,hd,hk,_,hm⟩:=n
 refine⟨o,ho,λname=> ?_⟩
 have e:=hm name
 unfold nsFind findBy at e
 rw[<-Array.find?_toList]at e
 unfold PySem.W.lookIn
 rw[hd]
 dsimp only
 split
 ·rename_i y q
  rw[q]at e
  exact congrArg some e
 ·rename_i q
  rw[q]at e
  have a:es.toList.any (·.refKey)=false:=by
   rw[List.any_eq_false]
   intro y hy
   obtain⟨z,t,hkey⟩:=hk y (Array.mem_toList_iff.mp hy)
   simp[DictEntry.refKey,hkey]
  have a':¬ es.toList.any (·.refKey)=true:=by rw[a];exact Bool.false_ne_true
  rw[if_neg a']
  exact congrArg some e
theorem ObjM.look{h:Heap}{x dx C:Addr}{mA:Str->Option Value}(I:ObjM h x dx C mA):∃ od,PySem.W.InstAt h x (PySem.W.instObj C dx) C (some od)/\∀ name,PySem.W.lookIn name od=some (mA name) :=
 let ⟨od,ho,hl⟩:=zuh I.ns
 ⟨od,⟨I.obj,rfl,rfl,ho⟩,hl⟩
section
variable{prog:Program}{w:World}{A:Around}{E:Value->Shared->Prop}{s:Shared}{K:PySem.W.Frag}{x dx C f:Addr}{mA:Str->Option Value}{name:Str}{v:Value}
theorem zx3{expr:Bool}{Q:Value->Shared->Prop}(X:K.In s.heap)(I:ObjM s.heap x dx C mA)(hg:PySem.W.plainGet K C name=true)(hh:PySem.W.hasDictIn K C=true)
  (ha:PySem.W.findIn K (.ref C) name=some none) (hv:mA name=some v) (hv':PySem.W.handedIn v=true) (h:Q v { s with toks:=s.toks+1 }) :
  wpAny (model prog w) A (getAttr (.ref x) name expr) Q E s:=by
 obtain⟨od,J,hl⟩:=I.look
 exact PySem.W.get_value X J (PySem.W.plainGet_of hg).1 (PySem.W.findObj_own hh ha rfl (by rw[hl,hv])) hv' h
theorem zv6{pl:Sem Bool}{Q:Value × List Value->Shared->Prop}(X:K.In s.heap)(I:ObjM s.heap x dx C mA)(hg:PySem.W.plainGet K C name=true)
  (hf:PySem.W.findIn K (.ref C) name=some (some (.ref f))) (ht:PySem.W.isFn K (.ref f)=true) (hv:mA name=none) (h:Q (.ref f,[.ref x]) s) :
  wpAny (model prog w) A (getMethod (.ref x) name pl) Q E s:=by
 obtain⟨od,J,hl⟩:=I.look
 exact PySem.W.method_fn X J (PySem.W.plainGet_of hg).1 (PySem.W.plainGet_of hg).2 hf (beq_iff_eq.mp ht) (by show(PySem.W.lookIn name od).map (·.isSome)=some false;rw[hl,hv];rfl) h
theorem zx4{ns:List Str}{Q:Unit->Shared->Prop}(X:K.In s.heap)(I:ObjM s.heap x dx C mA)
  (hs:PySem.W.findIn K (.ref C) "__setattr__"=some (some (.builtin "object.__setattr__"))) (hp:PySem.W.plainOver K C=true) (ht:PySem.W.takerIn K C name=some none) (hh:PySem.W.hasDictIn K C=true)
  (hw:PySem.Within mA ns) (hsz:ns.length<=sizeLine)
  (h:∀ h',ObjM h' x dx C (λy=>if y=name then some v else mA y)->Heap.SameBut dx s.heap h'->Q () { s with heap:=h',toks:=s.toks+2 }) :
  wpAny (model prog w) A (setAttr (.ref x) name v) Q E s:=by
 obtain⟨od,J,hl⟩:=I.look
 refine PySem.W.set_plain X J hs (PySem.W.osa_open (s:={ s with toks:=s.toks+1 }) (r:=none) X J hp ht λb=> ?_)
 obtain⟨cd,hc,hd'⟩:=PySem.W.any_some hh
 have hx:s.heap.get? x=some ⟨.ref C,some dx,.plain,#[]⟩:=I.obj
 refine wpAny_bind (wpAny_pure (wpAny_bind (wpAny_bind (wpAny_loadPart hx (wpAny_bind (PySem.W.Looks.here (s:={ s with toks:=s.toks+1 }) (PySem.W.looks_clsIn X hc) ?_))))))
 rw[hd']
 refine wpAny_pure (a:=some dx) (wpAny_bind (wpAny_pure (wpAny_bind ?_)))
 refine wpAny_nsSet1 (s:={ s with toks:=s.toks+1 }) I.ns λh' hn2 hs2=> ?_
 obtain⟨oD,esD,epD,hoD,hdD,hcD⟩:=hn2.count (PySem.Within.cons name v hw)
 refine wpAny_bind (wpAny_lookBehind hoD (by rw[hdD];exact pastItsLine_dict (Nat.le_trans hcD (by rw[List.length_cons];omega))) ?_)
 exact wpAny_pure (h _ ⟨(hs2.2 _ (Ne.symm I.ne)).trans I.obj,hn2,I.ne⟩ hs2)
theorem zv7{R:Result->Shared->Prop}{vs:List Value}{kw:List (Str × Value)}(X:K.In s.heap)(hm:PySem.W.makesIn K C=true)
  (hi:PySem.W.findIn K (.ref C) "__init__"=some (some (.ref f))) (hf:PySem.W.typeIn K (.ref f)=some (.type "function"))
  (h:codeAny (model prog w) (A.under (.builtin "type.__call__" ⟨.ref C::vs,kw⟩)) (.call (.ref f) ⟨.ref (s.heap.objs.size+1)::vs,kw⟩) (PySem.W.InitBack (s.heap.objs.size+1) R)
   { s with heap:=(s.heap.push PySem.W.emptyDict).push (PySem.W.instObj C s.heap.objs.size) }) :
  codeAny (model prog w) A (.call (.ref C) ⟨vs,kw⟩) R s:=by
 obtain⟨hh,g,d,t,os⟩:=s
 exact PySem.W.make_core (PySem.W.makes_of X hm) (PySem.W.looks_findIn X hi) (λself=>PySem.W.bind_fn X self hf) (.inl rfl) h
end
def putF(f:Str)(v:V):List (Str × V)->List (Str × V)
 | []=>[(f,v)]
 | (g,x)::r=>if g=f then(g,v)::r else(g,x)::putF f v r
theorem zmi (f g:Str) (v:V):∀ fs:List (Str × V),(putF f v fs).lookup g=if g=f then some v else fs.lookup g
  | []=>by
    show List.lookup g [(f,v)]=_
    by_cases h:g=f
    · have hb:(g == f)=true:=beq_iff_eq.mpr h
      simp only[List.lookup,hb,if_pos h]
    · have hb:(g == f)=false:=beq_eq_false_iff_ne.mpr h
      simp only[List.lookup,hb,if_neg h]
  | (k, x)::r=>by
    have ih:=zmi f g v r
    rw[show putF f v ((k,x)::r)=(if k=f then(k,v)::r else(k,x)::putF f v r)from rfl]
    by_cases hk:k=f
    · rw[if_pos hk]
      by_cases h:g=k
      · have hb:(g == k)=true:=beq_iff_eq.mpr h
        simp only[List.lookup,hb,if_pos (h.trans hk)]
      · have hb:(g == k)=false:=beq_eq_false_iff_ne.mpr h
        simp only[List.lookup,hb,if_neg (λe:g=f=>h (e.trans hk.symm))]
    · rw[if_neg hk]
      by_cases h:g=k
      · have hb:(g == k)=true:=beq_iff_eq.mpr h
        simp only[List.lookup,hb,if_neg (λe:g=f=>hk (h.symm.trans e))]
      · have hb:(g == k)=false:=beq_eq_false_iff_ne.mpr h
        simp only[List.lookup,hb]
        exact ih
theorem zmj (f:Str) (v:V):∀ fs:List (Str × V),f∈(putF f v fs).map (·.1)/\∀ g,g∈fs.map (·.1)->g∈(putF f v fs).map (·.1)
  | []=>⟨by simp[putF],λg h=>by simp at h⟩
  | (k, x)::r=>by
    obtain⟨i1,i2⟩:=zmj f v r
    rw[show putF f v ((k,x)::r)=(if k=f then(k,v)::r else(k,x)::putF f v r)from rfl]
    by_cases hk:k=f
    · rw[if_pos hk]
      subst hk
      exact⟨by simp,λg h=>by simpa using h⟩
    · rw[if_neg hk]
      refine⟨?_,λg h=> ?_⟩
      · rw[List.map_cons]
        exact List.mem_cons_of_mem _ i1
      · rw[List.map_cons]at h ⊢
        rcases List.mem_cons.mp h with e | e
        ·exact List.mem_cons.mpr (.inl e)
        ·exact List.mem_cons_of_mem _ (i2 g e)
theorem zff(f:Str)(v:V):∀ fs:List (Str × V),(putF f v fs).length<=fs.length+1
  | []=>by simp[putF]
  | (k,x)::r=>by
    have ih:=zff f v r
    rw[show putF f v ((k,x)::r)=(if k=f then(k,v)::r else(k,x)::putF f v r)from rfl]
    by_cases hk:k=f
    ·rw[if_pos hk,List.length_cons,List.length_cons];omega
    ·rw[if_neg hk,List.length_cons,List.length_cons];omega
theorem RelO.some_of{v:V}{o:Option Value}(r:RelO (some v) o):∃ u,o=some u/\RelV v u:=by
 cases o with
 | none=>exact(show False from r).elim
 | some u=>exact⟨u,rfl,r⟩
theorem RelO.none_of{o:Option Value}(r:RelO none o):o=none:=by
 cases o with
 | none=>rfl
 | some u=>exact(show False from r).elim
theorem zui{v:V}{u:Value}(r:RelV v u):PySem.W.handedIn u=true:=by
 cases v with
 | non=>cases (show u=Value.none from r);rfl
 | bl b=>cases (show u=Value.bool b from r);rfl
 | int i=>obtain⟨t,e⟩:=(show ∃ t,u=Value.int i t from r);cases e;rfl
 | str x=>obtain⟨t,e⟩:=(show ∃ t,u=Value.str x t from r);cases e;rfl
 | byt b=>obtain⟨t,e⟩:=(show ∃ t,u=Value.bytes b t from r);cases e;rfl
 | flt b=>obtain⟨t,e⟩:=(show ∃ t,u=Value.float b t from r);cases e;rfl
 | ref a=>cases (show u=Value.ref a from r);rfl
 | ty n=>cases (show u=Value.type n from r);rfl
section
variable{P:Program}{w:World}{H H':Hp}{h h':Heap}{a C dx:Addr}{fs fs':List (Str × V)}
theorem zoz(hok:HOk P w H h)(e:H a=some (.ins C dx fs)):∃ mA,ObjM h a dx C mA/\(∀ f,RelO (fs.lookup f) (mA f))/\PySem.Within mA (fs.map (·.1))/\fs.length<=1000/\H dx=some (.own a):=by
 obtain⟨d,z,ne,ob,mA,n,r,q⟩:=(show ObjOk P w H h a (.ins C dx fs)from hok a _ e)
 exact⟨mA,⟨ob,n,ne⟩,r,q,z,d⟩
end
structure Cls(K:PySem.W.Frag)(C:Addr):Prop where
 pg:PySem.W.plainGet K C Str.empty=true
 hd:PySem.W.hasDictIn K C=true
 po:PySem.W.plainOver K C=true
 sa:PySem.W.findIn K (.ref C) "__setattr__"=some (some (.builtin "object.__setattr__"))
theorem Cls.get{K:PySem.W.Frag}{C:Addr}(c:Cls K C)(f:Str):PySem.W.plainGet K C f=true:=c.pg
def NoAttr(K:PySem.W.Frag)(C:Addr)(f:Str):Prop:=PySem.W.findIn K (.ref C) f=some none
theorem NoAttr.taker{K:PySem.W.Frag}{C:Addr}{f:Str}(n:NoAttr K C f):PySem.W.takerIn K C f=some none:=by
 unfold PySem.W.takerIn
 rw[show PySem.W.findIn K (.ref C) f=some none from n]
 rfl
structure Con(K:PySem.W.Frag)(C:Addr)(f:Str)(v:V)(u:Value):Prop where
 at_:PySem.W.findIn K (.ref C) f=some (some u)
 rel:RelV v u
 get:PySem.W.specialIn K u "__get__"=some none
 cp:PySem.W.copiedNames.contains f=false
structure Meth(K:PySem.W.Frag)(C:Addr)(m:Str)(f:Addr):Prop where
 at_:PySem.W.findIn K (.ref C) m=some (some (.ref f))
 fn:PySem.W.isFn K (.ref f)=true
 kp:PySem.W.keepIn K (.ref f)=true
section
variable{X:Cx}{pins:List (Addr × Obj)}{σ:St}{H:Hp}{s:Shared}{a C dx:Addr}{fs:List (Str × V)}{f:Str}{v:V}{A:Around}{E:Value->Shared->Prop}
theorem ztg{b:Bool}{Q:Value->Shared->Prop}(I:Inv X pins σ H s)(e:H a=some (.ins C dx fs))(c:Cls X.K C)(n:NoAttr X.K C f)(l:fs.lookup f=some v)
  (h:∀ u s',Inv X pins σ H s'->RelV v u->Q u s'):wpAny (model X.prog X.w) A (getAttr (.ref a) f b) Q E s:=by
 obtain⟨mA,O,r,_,_,_⟩:=zoz I.hok e
 obtain⟨u,hu,ru⟩:=RelO.some_of (v:=v) (o:=mA f) (by rw[<-l];exact r f)
 exact zx3 I.kIn O (c.get f) c.hd n hu (zui ru) (h u _ (I.tok _) ru)
theorem zol{m:Str}{g:Addr}{pl:Sem Bool}{Q:Value × List Value->Shared->Prop}(I:Inv X pins σ H s)(e:H a=some (.ins C dx fs))(c:Cls X.K C)(k:Meth X.K C m g)(l:fs.lookup m=none)
  (h:Q (.ref g,[.ref a]) s):wpAny (model X.prog X.w) A (getMethod (.ref a) m pl) Q E s:=by
 obtain⟨mA,O,r,_,_,_⟩:=zoz I.hok e
 have hn:mA m=none:=RelO.none_of (by rw[<-l];exact r m)
 exact zv6 I.kIn O (c.get m) k.at_ k.fn hn h
theorem zth{y:V}{u:Value}{Q:Unit->Shared->Prop}(I:Inv X pins σ H s)(e:H a=some (.ins C dx fs))(c:Cls X.K C)(n:NoAttr X.K C f)(hl:fs.length<1000)(ry:RelV y u)
  (h:∀ s',Inv X pins σ (upd H a (.ins C dx (putF f y fs))) s'->Q () s'):wpAny (model X.prog X.w) A (setAttr (.ref a) f u) Q E s:=by
 obtain⟨mA,O,r,wi,_,ho⟩:=zoz I.hok e
 have hz:(fs.map (·.1)).length<=sizeLine:=by rw[List.length_map,sizeLine_eq];omega
 refine zx4 I.kIn O c.sa c.po n.taker c.hd wi hz λh' O' sb=>h _ ?_
 have hd:∃ o,h'.get? dx=some o:=let ⟨o,_,_,e',_⟩:=O'.ns;⟨o,e'⟩
 refine I.write (x:=a) (e:=dx) (by rw[e];exact True.intro) (.inr ho) (λb q hb z=>(sb.2 b hb).trans z) hd ?_
 refine⟨by rw[zah O.ne];exact ho,?_,O.ne,O'.obj,_,O'.ns,λg=> ?_,λg hg=> ?_⟩
 ·have:=zff f y fs;omega
 ·show RelO ((putF f y fs).lookup g) (if g=f then some u else mA g)
  rw[zmi]
  by_cases q:g=f
  ·rw[if_pos q,if_pos q];exact ry
  ·rw[if_neg q,if_neg q];exact r g
 ·by_cases q:g=f
  ·rw[q];exact(zmj f y fs).1
  ·refine(zmj f y fs).2 g (wi g λz=>hg ?_)
   show(if g=f then some u else mA g)=none
   rw[if_neg q];exact z
theorem Inv.made(I:Inv X pins σ H s):Inv X pins σ (upd (upd H s.heap.objs.size (.own (s.heap.objs.size+1))) (s.heap.objs.size+1) (.ins C s.heap.objs.size []))
  { s with heap:=(s.heap.push PySem.W.emptyDict).push (PySem.W.instObj C s.heap.objs.size) }:=by
 have e1:(s.heap.push PySem.W.emptyDict).get? s.heap.objs.size=some PySem.W.emptyDict:=Heap.get?_push_size s.heap rfl
 have e2:((s.heap.push PySem.W.emptyDict).push (PySem.W.instObj C s.heap.objs.size)).get? (s.heap.objs.size+1)=some (PySem.W.instObj C s.heap.objs.size):=by
  have:=Heap.get?_push_size (s.heap.push PySem.W.emptyDict) (o:=PySem.W.instObj C s.heap.objs.size) rfl
  rwa [Heap.size_push]at this
 have e3:(s.heap.push PySem.W.emptyDict).Ns s.heap.objs.size (λ_=>none):=⟨PySem.W.emptyDict,#[],_,e1,rfl,(λe he=>absurd he (by simp)),λ_=>rfl⟩
 have I1:=I.laid (a:=s.heap.objs.size) (o:=.own (s.heap.objs.size+1)) (h':=s.heap.push PySem.W.emptyDict) (t':=s.toks) (λb u q=>Heap.get?_push_of_some _ q) (Nat.le_refl _) ⟨_,e1⟩
 refine I1.laid (a:=s.heap.objs.size+1) (o:=.ins C s.heap.objs.size []) (t':=s.toks) (λb u q=>Heap.get?_push_of_some _ q) (Nat.le_of_eq (Heap.size_push _ _)) ?_
 have ne:s.heap.objs.size≠s.heap.objs.size+1:=Nat.ne_of_lt (Nat.lt_succ_self _)
 refine⟨by rw[zah ne,zac],Nat.zero_le _,ne,e2,λ_=>none,(Heap.Ns1.of_empty e3).at λo q=>Heap.get?_push_of_some _ q,λ_=>True.intro,λy hy=>absurd rfl hy⟩
theorem zx5{prog:Program}{w:World}{env:Env}{e:Expr}{f:Str}{pos:Pos}{s:Shared}{Q:Value->Shared->Prop}(hb:attributeBase e f env (eval e env)=eval e env)
  (h:wpAny (model prog w) A (eval e env) (λo s₁=>wpAny (model prog w) A (getAttr o f true) Q E s₁) E s):wpAny (model prog w) A (eval (.Attribute e f pos) env) Q E s :=
 Attribute_any_ h (by rw[arm_eval_Attribute,hb])
end
def tFld(K:PySem.W.Frag)(ta:TE)(f:Str):TE:=λσ H Q=>ta σ H λx H1=>∃ a C dx fs v,x=.ref a/\H1 a=some (.ins C dx fs)/\Cls K C/\NoAttr K C f/\fs.lookup f=some v/\Q v H1
def sFld(K:PySem.W.Frag)(ta tv:TE)(f:Str):TS:=λD σ H=>tv σ H λy H1=>ta σ H1 λx H2=>∃ a C dx fs,x=.ref a/\H2 a=some (.ins C dx fs)/\Cls K C/\NoAttr K C f/\fs.length<1000 ∧
 D.nx σ (upd H2 a (.ins C dx (putF f y fs)))
def zx6(K:PySem.W.Frag)(ta tv:TE)(rd:V->V->Hp->VK->Prop)(f:Str):TS:=λD σ H=>ta σ H λx H1=>∃ a C dx fs v,x=.ref a/\H1 a=some (.ins C dx fs)/\Cls K C/\NoAttr K C f/\fs.lookup f=some v ∧
 tv σ H1 λy H2=>rd v y H2 λz H3=>∃ dx' fs',H3 a=some (.ins C dx' fs')/\fs'.length<1000/\D.nx σ (upd H3 a (.ins C dx' (putF f z fs')))
section
variable{X:Cx}{o e value:Expr}{f:Str}{pos pos' tpos:Pos}{ta tv:TE}
theorem za4(he:PE X e ta)(hb:attributeBase e f X.env (eval e X.env)=eval e X.env):PE X (.Attribute e f pos) (tFld X.K ta f):=by
 intro pins s σ H Q I h
 refine zx5 hb (thn (he pins s σ H _ I h) λu s1 ⟨x,H1,I1,rx,a,C,dx,fs,v,ex,ea,c,n,l,q⟩=> ?_)
 subst ex
 obtain rfl:u=Value.ref a:=rx
 exact ztg I1 ea c n l λu' s2 I2 ru=>⟨v,H1,I2,ru,q⟩
theorem zef(ha:PE X o ta)(hv:PE X value tv)(hs:swapsWith value (some (.Attribute o f pos')) pos.line X.env=pure false):PS X (.Assign [.Attribute o f pos'] value pos) (sFld X.K ta tv f):=by
 intro pins s σ H D I h
 refine plainObj_wpAny_Assign_Attribute (thn (hv pins s σ H _ I h) λu s1 ⟨y,H1,I1,ry,q⟩=>thn (ha pins s1 σ H1 _ I1 q) λov s2 ⟨x,H2,I2,rx,a,C,dx,fs,ex,ea,c,n,l,q2⟩=> ?_) hs
 subst ex
 obtain rfl:ov=Value.ref a:=rx
 exact zth I2 ea c n l ry λs3 I3=>⟨σ,_,I3,q2⟩
def rAdd:V->V->Hp->VK->Prop:=λx y H Q=>∃ i j,x=.int i/\y=.int j/\Q (.int (i+j)) H
end
section
variable{X:Cx}{pins:List (Addr × Obj)}{σ:St}{H:Hp}{s:Shared}{A:Around}{E:Value->Shared->Prop}{Q:Value->Shared->Prop}{c:Value}{b:Bool}
inductive TyOf(K:PySem.W.Frag)(H:Hp):V->Value->Prop where
 | non:TyOf K H .non (.type "NoneType")
 | bl (x:Bool):TyOf K H (.bl x) (.type "bool")
 | int (i:Int):TyOf K H (.int i) (.type "int")
 | str (x:Str):TyOf K H (.str x) (.type "str")
 | flt (x:UInt64):TyOf K H (.flt x) (.type "float")
 | lst {a:Addr} {xs:List V} (e:H a=some (.lst xs)):TyOf K H (.ref a) (.type "list")
 | frz {a:Addr} {o:Obj} {xs:List V} (e:H a=some (.frz o (.lst xs))):TyOf K H (.ref a) (.type "list")
 | tup {a:Addr} {xs:List V} (e:H a=some (.tup xs)):TyOf K H (.ref a) (.type "tuple")
 | dK {a:Addr} {kvs:List (Key × V)} (e:H a=some (.dK kvs)):TyOf K H (.ref a) (.type "dict")
 | dT {a:Addr} {kvs:List (List Key × V)} (e:H a=some (.dT kvs)):TyOf K H (.ref a) (.type "dict")
 | ins {a C dx:Addr} {fs:List (Str × V)} (e:H a=some (.ins C dx fs)) (cl:Cls K C) (ha:PySem.W.findIn K (.ref C) "__class__"=some (some (.builtin "object.__class__")))
   (hn:PySem.W.specialIn K (.builtin "object.__class__") "__get__"=some (some (.builtin "getset_descriptor.__get__"))) (htk:PySem.W.takesIn K (.builtin "object.__class__")=some true)
   (hm:PySem.W.mroIn K C (.type "object")=some true):TyOf K H (.ref a) (.ref C)
end
end L2
namespace L2
open PySem PySem.Spec PyProof.Rows
structure Room(k:Nat)(A:Around):Prop where
 hd:A.handled=none
 dp:A.depth+3 * k+5<recursionLimit
 un:A.units+16 * k+200<cLine
theorem Room.mono{j k:Nat}{A:Around}(r:Room k A)(h:j<=k):Room j A:=⟨r.hd,by have:=r.dp;omega,by have:=r.un;omega⟩
theorem Room.deeper{k:Nat}{A:Around}(r:Room (k+1) A)(env:Env):Room k (A.deeper env) :=
 ⟨r.hd,by have:=r.dp;show A.depth+1+3 * k+5<_;omega,by have:=r.un;show A.units+3+16 * k+200<_;omega⟩
theorem Room.in1{k:Nat}{A:Around}(r:Room (k+1) A):Room k A.in1 :=
 ⟨r.hd,by have:=r.dp;show A.depth+3 * k+5<_;omega,by have:=r.un;show A.units+1+16 * k+200<_;omega⟩
theorem zti{A:Around}{C:Addr}{us:List Value}{kw:List (Str × Value)}:(A.under (.builtin "type.__call__" ⟨.ref C::us,kw⟩)).depth=A.depth+1:=by
 first | rfl | simp[Around.under,Code.weight,Code.isCreation,Code.isGuard,Code.isCaller,Code.frames,Code.isFrame,guardIds]
theorem ztj{A:Around}{C:Addr}{us:List Value}{kw:List (Str × Value)}:(A.under (.builtin "type.__call__" ⟨.ref C::us,kw⟩)).units=A.units+1:=by
 first | rfl | simp[Around.under,Code.cUnits,Code.frames,Code.isFrame]
theorem Room.make{k:Nat}{A:Around}(r:Room (k+1) A)(C:Addr)(us:List Value)(kw:List (Str × Value)):Room k (A.under (.builtin "type.__call__" ⟨.ref C::us,kw⟩)) :=
 ⟨r.hd,by have:=r.dp;rw[zti];omega,by have:=r.un;rw[ztj];omega⟩
theorem Room.depth{k:Nat}{A:Around}(r:Room k A):A.depth<recursionLimit:=by have:=r.dp;omega
theorem Room.units{k:Nat}{A:Around}(r:Room k A):A.units+64<cLine:=by have:=r.un;omega
def tNil:TA:=λ_ H Q=>Q [] H
def zaf(ta:TE)(tr:TA):TA:=λσ H Q=>ta σ H λx H1=>tr σ H1 λxs H2=>Q (x::xs) H2
section
variable{X:Cx}{e:Expr}{es:List Expr}{te:TE}{t:TA}{pos:Pos}
theorem zad:PA X [] tNil:=λ_ _ _ _ H Q I h=>Calls.spliced_nil ⟨[],H,I,.nil,h⟩
theorem zab(ha:PE X e te)(hr:PA X es t)(hs:starEach (e::es) X.env=(false,eval e X.env)::starEach es X.env:=by rfl):PA X (e::es) (zaf te t):=by
 intro pos pins s σ H Q I h
 rw[hs]
 show wpAny _ _ (spliced ((false,eval e X.env)::backTo pos (starEach es X.env))) _ _ s
 refine Calls.spliced_cons (thn (ha pins s σ H _ I h) λu s1 ⟨x,H1,I1,r1,q1⟩=> ?_)
 exact thn (hr pos pins s1 σ H1 _ I1 q1) λus s2 ⟨xs,H2,I2,r2,q2⟩=>⟨x::xs,H2,I2,.cons r1 r2,q2⟩
def tTup(t:TA):TE:=λσ H Q=>t σ H λxs H1=>xs.length<=sizeLine/\∀ p,H1 p=none->Q (.ref p) (upd H1 p (.tup xs))
def tLst(t:TA):TE:=λσ H Q=>t σ H λxs H1=>xs.length<=sizeLine/\∀ p,H1 p=none->Q (.ref p) (upd H1 p (.lst xs))
theorem zg1{x1}(h:PA X es t):PE X (.Tuple es x1 pos) (tTup t):=by
 intro pins s σ H Q I hq
 refine wpAny_Tuple_spliced (thn (h pos pins s σ H _ I hq) λus s1 ⟨xs,H1,I1,r,z,q⟩=>⟨by rw[<-r.length];exact z,?_⟩)
 have hf:H1 s1.heap.objs.size=none:=I1.hok.fresh (Nat.le_refl _)
 refine⟨.ref s1.heap.objs.size,upd H1 s1.heap.objs.size (.tup xs),I1.laid (t':=s1.toks) (λb u e=>Heap.get?_push_of_some _ e) (Nat.le_refl _) ?_,rfl,q _ hf⟩
 exact⟨z,us,r,⟨_,Heap.get?_push_size _ rfl,rfl,_,rfl⟩⟩
theorem zfg(h:PA X es t):PE X (.List es pos) (tLst t):=by
 intro pins s σ H Q I hq
 refine wpAny_List_spliced (thn (h pos pins s σ H _ I hq) λus s1 ⟨xs,H1,I1,r,z,q⟩=>⟨by rw[<-r.length];exact z,?_⟩)
 have hf:H1 s1.heap.objs.size=none:=I1.hok.fresh (Nat.le_refl _)
 refine⟨.ref s1.heap.objs.size,upd H1 s1.heap.objs.size (.lst xs),I1.laid (t':=s1.toks) (λb u e=>Heap.get?_push_of_some _ e) (Nat.le_refl _) ?_,rfl,q _ hf⟩
 exact⟨z,us,0,r,Heap.get?_push_size _ rfl⟩
end
abbrev Sp:=List V->Hp->VK->XK->Prop
abbrev CXT:=List Env->Hp->Shared->XK->Value->Shared->Prop
structure Env0(P:Program)(w:World)(K:PySem.W.Frag)(mg:Str->Option Value)(base:Heap)(A:Around)(outer:List Env)(s:Shared)(H:Hp):Prop where
 frames:A.frames=some outer
 mod:Mod K mg base
 bs:∀ b o,base.get? b=some o->s.heap.get? b=some o/\H b=none
 bsz:base.objs.size<=s.heap.objs.size
 funs:s.heap.FunFrames base outer
 frf:∀ b∈frs outer,H b=none
 hok:HOk P w H s.heap
 bare:AllBare s.gens
def CE(outer:List Env)(P:Program)(w:World)(H:Hp)(s:Shared)(Q:VK)(u:Value)(s':Shared):Prop :=
 ∃ v H',s'.os=s.os/\AllBare s'.gens/\Un (frs outer) [] H H' s.heap s'.heap/\HOk P w H' s'.heap/\RelV v u/\Q v H'
def CR(CX:CXT)(outer:List Env)(P:Program)(w:World)(H:Hp)(s:Shared)(Q:VK)(E:XK)(r:Result)(s':Shared):Prop :=
 match r with
 | .ok (.ret u)=>CE outer P w H s Q u s'
 | .ok _=>False
 | .error e=>CX outer H s E e s'
structure FnOk(P:Program)(w:World)(K:PySem.W.Frag)(mg:Str->Option Value)(base:Heap)(CX:CXT)(k:Nat)(f:Addr)(fd:FuncData)(ps:List Str)(sp:Sp):Prop where
 len:∀ vs H Q E,sp vs H Q E->vs.length=ps.length
 run:∀ (A:Around) (outer:List Env) (s:Shared) (H:Hp) (args:Args) (us:List Value) (vs:List V) (Q:VK) (E:XK),Room k A->Env0 P w K mg base A outer s H->BindsTo s fd args (ps.zip us)->Vals vs us->sp vs H Q E →
  codeAny (model P w) A (.call (.ref f) args) (CR CX outer P w H s Q E) s
theorem FnOk.mono{P:Program}{w:World}{K:PySem.W.Frag}{mg:Str->Option Value}{base:Heap}{CX:CXT}{j k:Nat}{f:Addr}{fd:FuncData}{ps:List Str}{sp:Sp}(F:FnOk P w K mg base CX j f fd ps sp)(h:j<=k) :
  FnOk P w K mg base CX k f fd ps sp:=⟨F.len,λA outer s H args us vs Q E hr=>F.run A outer s H args us vs Q E (hr.mono h)⟩
theorem FnOk.imp{P:Program}{w:World}{K:PySem.W.Frag}{mg:Str->Option Value}{base:Heap}{CX:CXT}{k:Nat}{f:Addr}{fd:FuncData}{ps:List Str}{sp sp':Sp}(F:FnOk P w K mg base CX k f fd ps sp)
  (h:∀ vs H Q E,sp' vs H Q E->sp vs H Q E):FnOk P w K mg base CX k f fd ps sp' :=
 ⟨λvs H Q E q=>F.len vs H Q E (h _ _ _ _ q),λA outer s H args us vs Q E hr he hb hv hs=>F.run A outer s H args us vs Q E hr he hb hv (h _ _ _ _ hs)⟩
theorem Env0.make{P:Program}{w:World}{K:PySem.W.Frag}{mg:Str->Option Value}{base:Heap}{A:Around}{outer:List Env}{s:Shared}{H:Hp}(e:Env0 P w K mg base A outer s H)(C:Addr)(us:List Value)(kw:List (Str × Value)) :
  Env0 P w K mg base (A.under (.builtin "type.__call__" ⟨.ref C::us,kw⟩)) outer s H:=⟨by first | exact e.frames | (simpa [Around.under,Code.envs,Code.isFrame,pushEnvs]using e.frames),e.mod,e.bs,e.bsz,e.funs,e.frf,e.hok,e.bare⟩
theorem Env0.in1{P:Program}{w:World}{K:PySem.W.Frag}{mg:Str->Option Value}{base:Heap}{A:Around}{outer:List Env}{s:Shared}{H:Hp}(e:Env0 P w K mg base A outer s H) :
  Env0 P w K mg base A.in1 outer s H:=⟨e.frames,e.mod,e.bs,e.bsz,e.funs,e.frf,e.hok,e.bare⟩
section
variable{X:Cx}{pins:List (Addr × Obj)}{σ:St}{H:Hp}{s s':Shared}
theorem Inv.env0(I:Inv X pins σ H s):Env0 X.prog X.w X.K X.mg X.base X.A X.stack s H :=
 ⟨I.ok.frames,I.ok.mod,I.bs,Nat.le_trans I.ok.bsz I.sz,I.stack,I.stkFree,I.hok,I.bare⟩
theorem Inv.after{Q:VK}{u:Value}(I:Inv X pins σ H s)(h:CE X.stack X.prog X.w H s Q u s'):EP X pins σ Q u s':=by
 obtain⟨v,H',os,bare,un,hok,r,q⟩:=h
 obtain⟨hh,g,d,t,os'⟩:=s'
 obtain rfl:os'=s.os:=os
 exact⟨v,H',I.call (h':=hh) (g':=g) (d':=d) (t':=t) (ch:=[]) un hok bare (λb z=>absurd z (by simp)),r,q⟩
end
def zke(sp:Sp)(dvs:List V)(E:St->XK)(t:TA):TE:=λσ H Q=>t σ H λvs H1=>sp (vs++dvs) H1 Q (E σ)
def zbq(C:Addr)(m:Str)(sp:Sp)(dvs:List V)(E:St->XK)(ta:TE)(t:TA):TE:=λσ H Q=>ta σ H λx H1=>∃ a dx fs,x=.ref a/\H1 a=some (.ins C dx fs)/\fs.lookup m=none ∧
 t σ H1 λvs H2=>sp (x::(vs++dvs)) H2 Q (E σ)
def zqa(C:Addr)(sp:Sp)(dvs:List V)(E:St->XK)(t:TA):TE:=λσ H Q=>t σ H λvs H1=>∀ x dx,H1 x=none->H1 dx=none->dx≠x →
 sp (.ref x::(vs++dvs)) (upd (upd H1 dx (.own x)) x (.ins C dx [])) (λv H2=>v=.non/\Q (.ref x) H2) (E σ)
def Binds(K:PySem.W.Frag)(fd:FuncData)(ps:List Str)(ds:List Value):Prop :=
 ∀ (s:Shared) (us:List Value),K.In s.heap->(us++ds).length=ps.length->BindsTo s fd ⟨us,[]⟩ (ps.zip (us++ds))
theorem Binds.all{K:PySem.W.Frag}{fd:FuncData}{ps:List Str}(h:∀ us:List Value,us.length=ps.length->bindArgs fd ⟨us,[]⟩=pure (ps.zip us)):Binds K fd ps []:=λs us _ hl=>by
 rw[List.append_nil]at hl ⊢
 exact .of_eq (h us hl)
def zgs(CX:CXT)(X:Cx)(E:St->XK):Prop:=∀ (pins:List (Addr × Obj)) (σ:St) (H:Hp) (s:Shared) (e:Value) (s':Shared),Inv X pins σ H s->CX X.stack H s (E σ) e s'->X.xe e s'
section
variable{X:Cx}{CX:CXT}{k:Nat}{f C:Addr}{fd:FuncData}{ps:List Str}{sp:Sp}{dvs:List V}{ds:List Value}{E:St->XK}{x m:Str}{p pos apos:Pos}{e o:Expr}{es:List Expr}{ta:TE}{t:TA}
theorem zuj{pins:List (Addr × Obj)}{σ:St}{H:Hp}{s:Shared}{Q:VK}{us:List Value}{vs:List V}(F:FnOk X.prog X.w X.K X.mg X.base CX k f fd ps sp)(hr:Room k X.A)(hb:Binds X.K fd ps ds)(hd:Vals dvs ds)(hx:zgs CX X E)
    (I:Inv X pins σ H s) (r:Vals vs us) (h:sp (vs++dvs) H Q (E σ)):wpAny (model X.prog X.w) X.A (call (.ref f) us) (EP X pins σ Q) X.xe s:=by
  have r2:Vals (vs++dvs) (us++ds):=r.append hd
  have hl:(us++ds).length=ps.length:=by rw[<-r2.length];exact F.len _ _ _ _ h
  refine wpAny_call (codeAny_mono (F.run X.A X.stack s H ⟨us,[]⟩ (us++ds) (vs++dvs) Q (E σ) hr I.env0 (hb s us I.kIn hl) r2 h) λr s' hq=> ?_)
  cases r with
  | error e=>exact hx pins σ H s e s' I hq
  | ok fl =>
    cases fl with
    | ret u=>exact I.after hq
    | next=>exact False.elim hq
    | brk=>exact False.elim hq
    | cont=>exact False.elim hq
theorem zx7(F:FnOk X.prog X.w X.K X.mg X.base CX k f fd ps sp)(hr:Room k X.A)(hg:Gl X x)(hm:X.mg x=some (.ref f))(hk:PySem.W.keepIn X.K (.ref f)=true)(hb:Binds X.K fd ps ds)(hd:Vals dvs ds)(hx:zgs CX X E)
  (ha:PA X (e::es) t) (hdb:(x ==("__debug__":Str))=false:=by decide) (he:starEach (e::es) X.env=(false,eval e X.env)::starEach es X.env:=by rfl) (hpl:(backTo pos (starEach es X.env)).any (·.1)=false:=by rfl) :
  PE X (.Call (.Name x p) (e::es) [] pos) (zke sp dvs E t):=by
 intro pins s σ H Q I h
 refine wpAny_Call_Name_kw (zmh I hg hm ?_ hdb)
 refine PySem.W.callWith_K (h₀:=X.base) I.ok.mod.kin hk (thn (ha pos pins s σ H _ I h) λus s1 ⟨vs,H1,I1,r,q⟩=>⟨I1.kIn,?_⟩) he hpl
 exact zuj F hr hb hd hx I1 r q
theorem zx8{pl:Sem Bool}(he:PE X o ta)(c:Cls X.K C)(hm:Meth X.K C m f)(F:FnOk X.prog X.w X.K X.mg X.base CX k f fd ps sp)(hr:Room k X.A)(hb:Binds X.K fd ps ds)(hd:Vals dvs ds)(hx:zgs CX X E)(ha:PA X (e::es) t)
  (hst:starEach (e::es) X.env=(false,eval e X.env)::starEach es X.env:=by rfl) (hpl:(backTo pos (starEach es X.env)).any (·.1)=false:=by rfl)
  (ht:eval (.Call (.Attribute o m apos) (e::es) [] pos) X.env=(do
   let ov ← eval o X.env
   standAt apos.atName
   let (f,first) ← holding [ov] (getMethod ov m pl)
   callWith pos f first (backTo pos (starEach (e::es) X.env)) (backToKw pos (keywordEach [] X.env))):=by rfl) :
  PE X (.Call (.Attribute o m apos) (e::es) [] pos) (zbq C m sp dvs E ta t):=by
 intro pins s σ H Q I h
 refine PySem.W.methodCall_KW (pl:=pl) (thn (he pins s σ H _ I h) λu s1 ⟨x,H1,I1,rx,a,dx,fs,ex,ea,l,q⟩=> ?_) ht
 subst ex
 obtain rfl:u=Value.ref a:=rx
 refine zol I1 ea c hm l ?_
 refine PySem.W.callWith_K (first:=[.ref a]) (h₀:=X.base) I.ok.mod.kin hm.kp (thn (ha pos pins s1 σ H1 _ I1 q) λus s2 ⟨vs,H2,I2,r,q2⟩=>⟨I2.kIn,?_⟩) hst hpl
 exact zuj (us:=.ref a::us) (vs:=.ref a::vs) F hr hb hd hx I2 (.cons rfl r) q2
theorem zv8{pl:Sem Bool}(he:PE X o ta)(c:Cls X.K C)(hm:Meth X.K C m f)(F:FnOk X.prog X.w X.K X.mg X.base CX k f fd ps sp)(hr:Room k X.A)(hb:Binds X.K fd ps ds)(hd:Vals dvs ds)(hx:zgs CX X E)
  (ht:eval (.Call (.Attribute o m apos) [] [] pos) X.env=(do
   let ov ← eval o X.env
   standAt apos.atName
   let (f,first) ← holding [ov] (getMethod ov m pl)
   callWith pos f first (backTo pos (starEach [] X.env)) (backToKw pos (keywordEach [] X.env))):=by rfl) :
  PE X (.Call (.Attribute o m apos) [] [] pos) (zbq C m sp dvs E ta tNil):=by
 intro pins s σ H Q I h
 refine PySem.W.methodCall_KW (pl:=pl) (thn (he pins s σ H _ I h) λu s1 ⟨x,H1,I1,rx,a,dx,fs,ex,ea,l,q⟩=> ?_) ht
 subst ex
 obtain rfl:u=Value.ref a:=rx
 refine zol I1 ea c hm l ?_
 exact PySem.W.callWith_K0 (first:=[.ref a]) I1.kIn hm.kp (zuj (us:=[.ref a]) (vs:=[.ref a]) F hr hb hd hx I1 (.cons rfl .nil) q)
structure Mk(K:PySem.W.Frag)(C f:Addr):Prop where
 makes:PySem.W.makesIn K C=true
 init:PySem.W.findIn K (.ref C) "__init__"=some (some (.ref f))
 fn:PySem.W.isFn K (.ref f)=true
 kp:PySem.W.keepIn K (.ref C)=true
theorem zv9{pins:List (Addr × Obj)}{σ:St}{H:Hp}{s:Shared}{Q:VK}{us:List Value}{vs:List V}(M:Mk X.K C f)(F:FnOk X.prog X.w X.K X.mg X.base CX k f fd ps sp)(hr:Room (k+1) X.A)(hb:Binds X.K fd ps ds)(hd:Vals dvs ds)
    (hx:zgs CX X E) (I:Inv X pins σ H s) (r:Vals vs us)
    (h:∀ x dx,H x=none->H dx=none->dx≠x->sp (.ref x::(vs++dvs)) (upd (upd H dx (.own x)) x (.ins C dx [])) (λv H2=>v=.non/\Q (.ref x) H2) (E σ)) :
    wpAny (model X.prog X.w) X.A (call (.ref C) us) (EP X pins σ Q) X.xe s:=by
  have hq:=h (s.heap.objs.size+1) s.heap.objs.size (I.hok.fresh (Nat.le_succ _)) (I.hok.fresh (Nat.le_refl _)) (Nat.ne_of_lt (Nat.lt_succ_self _))
  have I2:=Inv.made (C:=C) I
  have r2:Vals (V.ref (s.heap.objs.size+1)::(vs++dvs)) (Value.ref (s.heap.objs.size+1)::(us++ds)):=.cons rfl (r.append hd)
  have hl:(Value.ref (s.heap.objs.size+1)::us++ds).length=ps.length:=by
    have e:=r2.length
    rw[F.len _ _ _ _ hq]at e
    exact e.symm
  refine wpAny_call (zv7 (f:=f) I.kIn M.makes M.init (beq_iff_eq.mp M.fn) (codeAny_mono (F.run _ X.stack _ _ ⟨Value.ref (s.heap.objs.size+1)::us,[]⟩ (Value.ref (s.heap.objs.size+1)::(us++ds)) _ _ (E σ) (hr.make C us [])
    (I2.env0.make C us []) (hb _ (Value.ref (s.heap.objs.size+1)::us) I2.kIn hl) r2 hq) λr s' hq'=> ?_))
  cases r with
  | error e=>exact hx pins σ _ _ e s' I2 hq'
  | ok fl =>
    cases fl with
    | ret u =>
      obtain⟨v,H',I3,rv,ev,q3⟩:=I2.after hq'
      subst ev
      exact⟨rv,⟨V.ref (s.heap.objs.size+1),H',I3,rfl,q3⟩⟩
    | next=>exact False.elim hq'
    | brk=>exact False.elim hq'
    | cont=>exact False.elim hq'
theorem zx9(M:Mk X.K C f)(F:FnOk X.prog X.w X.K X.mg X.base CX k f fd ps sp)(hr:Room (k+1) X.A)(hg:Gl X x)(hm:X.mg x=some (.ref C))(hb:Binds X.K fd ps ds)(hd:Vals dvs ds)(hx:zgs CX X E)
  (ha:PA X (e::es) t) (hdb:(x ==("__debug__":Str))=false:=by decide) (he:starEach (e::es) X.env=(false,eval e X.env)::starEach es X.env:=by rfl) (hpl:(backTo pos (starEach es X.env)).any (·.1)=false:=by rfl) :
  PE X (.Call (.Name x p) (e::es) [] pos) (zqa C sp dvs E t):=by
 intro pins s σ H Q I h
 refine wpAny_Call_Name_kw (zmh I hg hm ?_ hdb)
 refine PySem.W.callWith_K (h₀:=X.base) I.ok.mod.kin M.kp (thn (ha pos pins s σ H _ I h) λus s1 ⟨vs,H1,I1,r,q⟩=>⟨I1.kIn,?_⟩) he hpl
 exact zv9 M F hr hb hd hx I1 r q
end
section
variable{X:Cx}{CX:CXT}{k:Nat}{f C:Addr}{fd:FuncData}{ps ks:List Str}{sp:Sp}{E:St->XK}{x m:Str}{p pos apos kpos:Pos}{e o:Expr}{es:List Expr}{kws:List Keyword}{te ta:TE}{t tk:TA}{nm:Option Str}
structure zac9(K:PySem.W.Frag)(fd:FuncData)(ps ks:List Str)(g:List Value->List Value->List Value)(gV:List V->List V->List V):Prop where
 to:∀ (s:Shared) (us ws:List Value),K.In s.heap->(g us ws).length=ps.length->BindsTo s fd ⟨us,ks.zip ws⟩ (ps.zip (g us ws))
 rel:∀ {vs:List V} {us:List Value} {zs:List V} {ws:List Value},Vals vs us->Vals zs ws->Vals (gV vs zs) (g us ws)
variable{g:List Value->List Value->List Value}{gV:List V->List V->List V}
end
structure zav(N P:List Str)(sc:Scope):Prop where
 kind:sc.kind=.function
 co:sc.isCoroutine=false
 gen:sc.isGenerator=false
 nd:N.Nodup
 pre:N.take P.length=P
 par:∀ x∈P,sc.names.lookup x=some .local\/sc.names.lookup x=some .cell
 nofree:∀ y∈sc.names,y.2≠.free
theorem zqb{kindOf:Str->Option NameKind}{x:Str}:∀ {binds:List (Str × Value)} {m:Str->Option Value},(∀ v,(x,v)∉binds)->bindL kindOf binds m x=m x
  | [],_,_=>rfl
  | (n,v)::r,m,h=>by
    unfold bindL
    rw[zqb λw hw=>h w (List.mem_cons_of_mem _ hw)]
    split
    · have:x≠n:=by rintro rfl;exact h v List.mem_cons_self
      simp[this]
    ·rfl
theorem zqc{kindOf:Str->Option NameKind}{x:Str}:∀ {binds:List (Str × Value)} {m:Str->Option Value},(∀ v,(x,v)∉binds)->bindC kindOf binds m x=m x
  | [],_,_=>rfl
  | (n,v)::r,m,h=>by
    unfold bindC
    rw[zqc λw hw=>h w (List.mem_cons_of_mem _ hw)]
    split
    ·rfl
    · have:x≠n:=by rintro rfl;exact h v List.mem_cons_self
      simp[this]
theorem zqd{kindOf:Str->Option NameKind}{x:Str}{v:Value}:∀ {P:List Str} {vs:List Value} {i:Nat} {m:Str->Option Value},P.Nodup->P[i]? =some x->vs[i]? =some v->kindOf x=some .local →
    bindL kindOf (P.zip vs) m x=some v
  | [],_,_,_,_,h,_,_=>by simp at h
  | _::_,[],_,_,_,_,h,_=>by simp at h
  | p::P,w::vs,0,m,nd,h1,h2,hk=>by
    simp at h1 h2;subst h1;subst h2
    show bindL kindOf ((p,w)::P.zip vs) m p=_
    unfold bindL
    rw[zqb λv hv=>(List.nodup_cons.mp nd).1 (List.of_mem_zip hv).1,if_pos hk]
    simp
  | p::P,w::vs,i+1,m,nd,h1,h2,hk=>by
    show bindL kindOf ((p,w)::P.zip vs) m x=_
    unfold bindL
    exact zqd (i:=i) (List.nodup_cons.mp nd).2 (by simpa using h1) (by simpa using h2) hk
theorem zqe{kindOf:Str->Option NameKind}{x:Str}{v:Value}:∀ {P:List Str} {vs:List Value} {i:Nat} {m:Str->Option Value},P.Nodup->P[i]? =some x->vs[i]? =some v->kindOf x≠some .local →
    bindC kindOf (P.zip vs) m x=some v
  | [],_,_,_,_,h,_,_=>by simp at h
  | _::_,[],_,_,_,_,h,_=>by simp at h
  | p::P,w::vs,0,m,nd,h1,h2,hk=>by
    simp at h1 h2;subst h1;subst h2
    show bindC kindOf ((p,w)::P.zip vs) m p=_
    unfold bindC
    rw[zqc λv hv=>(List.nodup_cons.mp nd).1 (List.of_mem_zip hv).1,if_neg hk]
    simp
  | p::P,w::vs,i+1,m,nd,h1,h2,hk=>by
    show bindC kindOf ((p,w)::P.zip vs) m x=_
    unfold bindC
    exact zqe (i:=i) (List.nodup_cons.mp nd).2 (by simpa using h1) (by simpa using h2) hk
def zby(N:List Str)(vs:List V):St:=vs.map some++List.replicate (N.length - vs.length) none
def cxOf(CX:CXT)(P:Program)(w:World)(K:PySem.W.Frag)(mg:Str->Option Value)(base:Heap)(N:List Str)(qual:Str)(scope:Scope)(f:Addr)(cd:Value)(A:Around)(outer:List Env)(s:Shared)(H:Hp)(E:XK):Cx where
 prog:=P
 w:=w
 K:=K
 mg:=mg
 base:=base
 A:=A.deeper (envOfC qual scope s.heap.objs.size f cd)
 N:=N
 s₀:=s
 H₀:=H
 env:=envOfC qual scope s.heap.objs.size f cd
 outer:=outer
 stack:=envOfC qual scope s.heap.objs.size f cd::outer
 ex:=[]
 calm:=true
 fn:=λ_=>true
 pn:=[]
 xe:=λe s'=>wpAny (model P w) (A.deeper (envOfC qual scope s.heap.objs.size f cd)) (leaving (envOfC qual scope s.heap.objs.size f cd) e) (λ_ s''=>CX outer H s E e s'') (λe' s''=>CX outer H s E e' s'') s'
theorem zsr{sc:Scope}{n:Nat}{x:Str}(h:sc.names.lookup x=some .cell):∃ c,(cellsFrom n sc.names []).lookup x=some c:=by
 have q:=PySem.W.cellsFrom_some sc.names n [] (.inl h)
 exact Option.isSome_iff_exists.mp q
theorem zuk {CX:CXT} {P:Program} {w:World} {K:PySem.W.Frag} {mg:Str->Option Value} {base:Heap} {N ps:List Str} {qual:Str} {scope:Scope} {f:Addr} {cd:Value} {A:Around} {outer:List Env} {s s1:Shared} {H:Hp} {E:XK} {us:List Value} {vs:List V}
    (S:zav N ps scope) (hd:A.handled=none) (e0:Env0 P w K mg base A outer s H) (hl:vs.length=ps.length) (r:Vals vs us)
    (x:InCallC s s.heap.objs.size (bindL (envOfC qual scope s.heap.objs.size f cd).kindOf (ps.zip us) λ_=>none) (cellsFrom (s.heap.objs.size+1) scope.names []) (bindC (envOfC qual scope s.heap.objs.size f cd).kindOf (ps.zip us) λ_=>none) s1) :
    Inv (cxOf CX P w K mg base N qual scope f cd A outer s H E) [] (zby N vs) H s1:=by
  have hpl:ps.length<=N.length:=by have:=congrArg List.length S.pre;rw[List.length_take]at this;omega
  obtain⟨h1,tk,rfl,hk⟩:=x.done
  have noA:∀ b:Addr,b∉(cxOf CX P w K mg base N qual scope f cd A outer s H E).ex:=λb z=>absurd (show b∈([]:List Addr)from z) (by simp)
  refine⟨⟨e0.mod,S.kind,rfl,rfl,Nat.le_refl _,λy z c h1 h2=> ?_,λy hy=> ?_,λy c _ h=> ?_,λ_=>hd,Around.frames_deeper e0.frames,.inr ⟨rfl,rfl⟩,λb z=>absurd z (noA b),e0.bs,e0.bsz,λb _ _=>noA b,λb z=>absurd z (noA b),e0.funs,e0.frf⟩,
    rfl,e0.bare,Un.kept hk,⟨_,x.toInCall.ns,λi y v h1 h2 h3=> ?_⟩,λy c h=>⟨_,x.cell y c h⟩,e0.hok.fresh (Nat.le_refl _),λy c h=> ?_,λp hp=>absurd (show p∈([]:List (Addr × Obj))from hp) (by simp),e0.hok.kept hk,?_⟩
  ·exact name_of_addr x.apart (PySem.mem_of_lookup h1) (PySem.mem_of_lookup h2)
  · have hy:scope.names.lookup y=some .cell\/scope.names.lookup y=some .free:=hy
    rcases hy with hy | hy
    ·exact zsr hy
    ·exact absurd rfl (S.nofree _ (PySem.mem_of_lookup hy))
  ·exact Nat.le_of_lt (x.above y c (PySem.mem_of_lookup h))
  · have hi:i<vs.length:=by
      unfold zby at h2
      by_cases hi:i<vs.length
      ·exact hi
      · rw[List.getElem?_append_right (by simpa using hi)]at h2
        rw[List.getElem?_replicate]at h2
        split at h2<;>cases h2
    have ha:vs[i]? =some v:=by
      unfold zby at h2
      rw[List.getElem?_append_left (by simpa using hi),List.getElem?_map]at h2
      cases e:vs[i]? with
      | none=>rw[e]at h2;cases h2
      | some a=>rw[e]at h2;cases h2;rfl
    obtain⟨u,hu,rv⟩:=r.get ha
    have hp:ps[i]? =some y:=by
      rw[<-S.pre,List.getElem?_take_of_lt (by omega)];exact h1
    have ndP:ps.Nodup:=by rw[<-S.pre];exact S.nd.sublist (List.take_sublist _ _)
    refine⟨u,rv,?_⟩
    rcases S.par y (List.mem_of_getElem? hp)with k | k
    ·exact .inl ⟨k,zqd ndP hp hu k⟩
    · obtain⟨c,e⟩:=zsr (n:=s.heap.objs.size+1) k
      refine .inr ⟨.inl k,c,e,?_⟩
      have q:=x.cell y c e
      rw[zqe ndP hp hu (by show scope.names.lookup y≠_;rw[k];decide)]at q
      exact q
  ·exact e0.hok.fresh (Nat.le_of_lt (x.above y c (PySem.mem_of_lookup h)))
  · unfold zby
    show _=N.length
    rw[List.length_append,List.length_map,List.length_replicate]
    omega
theorem zaah{CX:CXT}{P:Program}{w:World}{K:PySem.W.Frag}{mg:Str->Option Value}{base:Heap}{k:Nat}{f:Addr}{name qual:Str}{params:Arguments}{body:List Stmt}{scope:Scope}{dV kV doc pm cdv ct oc:Value}{an od:Option Addr}
    {osl:Array (Option Value)} {N ps:List Str} {sp:Sp} (lk:K.lookup f=some ⟨oc,od,.func (PySem.W.fnOf name qual params body scope dV kV doc pm an cdv ct),osl⟩) (hcd:PySem.W.codeIn K cdv qual=true) (S:zav N ps scope)
    (len:∀ vs H Q E,sp vs H Q E->vs.length=ps.length)
    (hbody:∀ (A:Around) (outer:List Env) (s:Shared) (H:Hp) (vs:List V) (Q:VK) (E:XK),Room k (A.deeper (envOfC qual scope s.heap.objs.size f cdv))->sp vs H Q E →
      ∃ t,PSs (cxOf CX P w K mg base N qual scope f cdv A outer s H E) body t/\t { nx:=λ_ H'=>Q .non H',rt:=Q } (zby N vs) H) :
    FnOk P w K mg base CX (k+1) f (PySem.W.fnOf name qual params body scope dV kV doc pm an cdv ct) ps sp:=by
  refine⟨len,λA outer s H args us vs Q E hr e0 hb r hsp=> ?_⟩
  have hl:=len _ _ _ _ hsp
  have KX:K.In s.heap:=e0.mod.kin.keeps λb o e=>(e0.bs b o e).1
  have lim:s.heap.NoLimit:=e0.mod.nolimit.keeps λb o e=>(e0.bs b o e).1
  have hkind:∀ y∈ps.zip us,scope.names.lookup y.1=some .local\/(scope.names.lookup y.1=some .cell/\((cellsFrom (s.heap.objs.size+1) scope.names []).lookup y.1).isSome=true):=λ⟨n,v⟩ hy=>by
    rcases S.par n (List.of_mem_zip hy).1 with q | q
    ·exact .inl q
    ·exact .inr ⟨q,PySem.W.cellsFrom_some _ _ _ (.inl q)⟩
  refine codeAny_call_function hr.depth (KX _ _ lk) rfl S.co S.gen rfl (PySem.W.codeRec_of KX hcd) (hb _ _ _ _ ?_)
  refine wpAny_newFunctionEnv_cells S.kind hkind λenv he s1 x=> ?_
  subst he
  refine⟨lim.keeps x.toInCall.keep,codeAny_func ?_⟩
  obtain⟨t,ht,hq⟩:=hbody A outer s H vs Q E (hr.deeper _) hsp
  have I:Inv (cxOf CX P w K mg base N qual scope f cdv A outer s H E) [] (zby N vs) H s1:=zuk S hr.hd e0 hl r x
  refine wpAny_mono (ht [] s1 (zby N vs) H _ I hq) (λfl s' hs=> ?_) λe s' hs=>hs
  have fin:∀ {σ':St} {H':Hp} {v:V} {u:Value},Inv (cxOf CX P w K mg base N qual scope f cdv A outer s H E) [] σ' H' s'->RelV v u->Q v H'->CE outer P w H s Q u s' :=
    λ{σ' H' v u} J rv q=>⟨v,H',J.os,J.bare,J.base,J.hok,rv,q⟩
  cases fl with
  | ret u =>
    obtain⟨v,σ',H',J,rv,q⟩:=hs
    exact fin J rv q
  | next =>
    obtain⟨σ',H',J,q⟩:=hs
    exact fin (v:=V.non) (u:=Value.none) J rfl q
  | brk =>
    obtain⟨_,_,_,q⟩:=hs
    exact False.elim q
  | cont =>
    obtain⟨_,_,_,q⟩:=hs
    exact False.elim q
end L2
namespace L2
open PySem PySem.Spec PyProof.Rows
section
variable{X:Cx}{x:Str}{p pos:Pos}{e:Expr}{es:List Expr}{t:TA}{id T:String}{r:List V->Hp->VK->Prop}
def tCB(r:List V->Hp->VK->Prop)(t:TA):TE:=λσ H Q=>t σ H λvs H1=>r vs H1 Q
theorem zb1(hc:CallR X (.builtin id) r)(hg:Gl X x)(hm:X.mg x=none)(hv:bootBuiltins x=some (.builtin id))(ha:PA X (e::es) t)(hn:x≠"__name__":=by decide)(hdb:(x ==("__debug__":Str))=false:=by decide)
  (he:starEach (e::es) X.env=(false,eval e X.env)::starEach es X.env:=by rfl) (hpl:(backTo pos (starEach es X.env)).any (·.1)=false:=by rfl):PE X (.Call (.Name x p) (e::es) [] pos) (tCB r t):=by
 intro pins s σ H Q I h
 refine wpAny_Call_Name_kw (zp5 I hg hm hv ?_ hn hdb)
 exact PyProof.Rows.callWith_builtin1 (thn (ha pos pins s σ H _ I h) λus s1 ⟨vs,H1,I1,r1,q1⟩=>hc pins s1 σ H1 vs us Q I1 r1 q1) he hpl
theorem zf4(hc:CallR X (.type T) r)(hg:Gl X x)(hm:X.mg x=none)(hv:bootBuiltins x=some (.type T))(ha:PA X (e::es) t)(hn:x≠"__name__":=by decide)(hdb:(x ==("__debug__":Str))=false:=by decide)
  (he:starEach (e::es) X.env=(false,eval e X.env)::starEach es X.env:=by rfl) (hpl:(backTo pos (starEach es X.env)).any (·.1)=false:=by rfl):PE X (.Call (.Name x p) (e::es) [] pos) (tCB r t):=by
 intro pins s σ H Q I h
 refine wpAny_Call_Name_kw (zp5 I hg hm hv ?_ hn hdb)
 exact PyProof.Rows.callWith_type1 (thn (ha pos pins s σ H _ I h) λus s1 ⟨vs,H1,I1,r1,q1⟩=>hc pins s1 σ H1 vs us Q I1 r1 q1) he hpl
end
end L2
namespace HT
open PySem PyProof.Rows
section
open PySem.SeqAt
open PySem.AutoSeq1 (wpAny_loadPart')
open PySem.MeetsSeq PySem.MeetsSeq2 PySem.MeetsSeq3
end
section
variable{prog:Program}{w:World}{A:Around}{E:Value->Shared->Prop}{s:Shared}
theorem cat_tup{t b:Addr}{vs ws:List Value}{Q:Value->Shared->Prop}(ht:IsTup s.heap t vs.toArray)(hb:IsTup s.heap b ws.toArray)(hv:vs≠[])
  (h1:ws=[]->Q (.ref t) s) (h2:ws≠[]->Q (.ref s.heap.objs.size) { s with heap:=s.heap.push { cls:=.type "tuple",data:=.seq (vs++ws).toArray } })
  (hsz:vs.length+ws.length<=sizeLine):wpAny (model prog w) A (binaryOp .Add (.ref t) (.ref b)) Q E s:=by
 obtain⟨⟨cls,dd,data,sl⟩,ho,hc,n,hd⟩:=id ht
 obtain⟨⟨cls2,dd2,data2,sl2⟩,ho2,hc2,n2,hd2⟩:=id hb
 simp only at hc hd hc2 hd2
 subst hc hd hc2 hd2
 have e:vs.toArray++ws.toArray=(vs++ws).toArray:=by simp
 by_cases hw:ws=[]
 ·exact concat_meets ⟨_,ho,rfl⟩ ⟨_,ho2,rfl⟩ noFill_tuple_add seq_tuple_add PySem.F.slot_tuple_add PySem.F.entry_tuple_add (PySem.F.args_tuple_add_2 _ _)
   (tuple_addW1 t b vs.toArray ws.toArray n n2 dd dd2 sl sl2 (by simpa using hv) (by simp[hw])) ⟨ho,ho2,h1 hw⟩
 ·refine concat_meets ⟨_,ho,rfl⟩ ⟨_,ho2,rfl⟩ noFill_tuple_add seq_tuple_add PySem.F.slot_tuple_add PySem.F.entry_tuple_add (PySem.F.args_tuple_add_2 _ _)
   (tuple_addW2 t b vs.toArray ws.toArray n n2 dd dd2 sl sl2 (by simpa using hv) (by simpa using hw) (by rw[List.size_toArray,List.size_toArray];exact hsz)) ⟨ho,ho2,?_⟩
  rw[e]
  exact h2 hw
def sIx(n d:Nat):Option Int->Nat
 | none=>d
 | some v=>if v<0 then(v+(n:Int)).toNat else min v.toNat n
end
end HT
namespace L2
open PySem PySem.Spec PyProof.Rows
abbrev TO:=St->Hp->(Option Int->Hp->Prop)->Prop
def zya:TO:=λ_ H Q=>Q none H
def zaci(t:TE):TO:=λσ H Q=>t σ H λx H1=>∃ i,x=.int i/\Q (some i) H1
section
variable{X:Cx}{e:Expr}{te:TE}{lo hi:Option Expr}{tl th:TO}{pos p2:Pos}
def SlR (X:Cx) (r:V->Option Int->Option Int->Hp->VK->Prop):Prop :=
  ∀ (pins:List (Addr × Obj)) (s:Shared) (σ:St) (H:Hp) (x:V) (v vl vu:Value) (lo hi:Option Int) (sl:Addr) (Q:VK),Inv X pins σ H s->RelV x v->s.heap.IsSliceOf sl vl vu .none->IsPart vl lo->IsPart vu hi->r x lo hi H Q →
    ∃ T id,typeLookup (.type T) "__getitem__"=pure (some (.builtin id))/\s.TypeIs v T/\wpAny (model X.prog X.w) X.A (getItem v (.ref sl)) (EP X pins σ Q) X.xe s
theorem SlR.or{r r':V->Option Int->Option Int->Hp->VK->Prop}(h:SlR X r)(h':SlR X r'):SlR X (λx lo hi H Q=>r x lo hi H Q\/r' x lo hi H Q):=by
 intro pins s σ H x v vl vu lo hi sl Q I rx hs pl pu q
 rcases q with q | q
 ·exact h pins s σ H x v vl vu lo hi sl Q I rx hs pl pu q
 ·exact h' pins s σ H x v vl vu lo hi sl Q I rx hs pl pu q
def tSl(r:V->Option Int->Option Int->Hp->VK->Prop)(te:TE)(tl th:TO):TE:=λσ H Q=>te σ H λx H1=>tl σ H1 λl H2=>th σ H2 λu H3=>r x l u H3 Q
def cutV(xs:List V)(lo hi:Option Int):List V:=(xs.drop (HT.sIx xs.length 0 lo)).take (HT.sIx xs.length xs.length hi - HT.sIx xs.length 0 lo)
def rSlT(K:PySem.W.Frag):V->Option Int->Option Int->Hp->VK->Prop:=λx lo hi H Q=>∃ a xs,x=.ref a/\SqT K H a xs ∧
 ¬ (HT.sIx xs.length 0 lo=0/\HT.sIx xs.length xs.length hi=xs.length)/\∀ p,H p=none->Q (.ref p) (upd H p (.tup (cutV xs lo hi)))
def zyb(K:PySem.W.Frag):R2:=λx y H Q=>∃ a b xs ys,x=.ref a/\y=.ref b/\SqT K H a xs/\SqT K H b ys/\xs≠[]/\xs.length+ys.length<=sizeLine ∧
 (ys=[]->Q (.ref a) H)/\(ys≠[]->∀ p,H p=none->Q (.ref p) (upd H p (.tup (xs++ys))))
theorem Vals.nil_iff{xs:List V}{us:List Value}(r:Vals xs us):us=[]↔xs=[]:=by
 cases r with
 | nil=>simp
 | cons _ _=>simp
theorem zyc:OpR X (binaryOp .Add) (zyb X.K):=by
 intro pins s σ H x y v u Q I rx ry h
 obtain⟨a,b,xs,ys,rfl,rfl,ha,hb,hx,hz,q1,q2⟩:=h
 cases rx
 cases ry
 obtain⟨its,r1,p1,_⟩:=I.tuple ha
 obtain⟨its2,r2,p2,_⟩:=I.tuple hb
 refine HT.cat_tup p1 p2 (λz=>hx (r1.nil_iff.mp z)) (λz=>⟨.ref a,H,I,rfl,q1 (r2.nil_iff.mp z)⟩) (λz=> ?_) (by rw[<-r1.length,<-r2.length];exact hz)
 refine⟨.ref s.heap.objs.size,_,I.laid (t':=s.toks) (o:=.tup (xs++ys)) (λb ob q=>Heap.get?_push_of_some _ q) (Nat.le_refl _) ?_,rfl,q2 (λw=>z (r2.nil_iff.mpr w)) _ (I.hok.fresh (Nat.le_refl _))⟩
 exact⟨by rw[List.length_append];exact hz,_,r1.append r2,IsTup.new _ _⟩
end
end L2
namespace L2
open PySem PySem.Spec PyProof.Rows
def ixN(n:Nat)(i:Int):Option Nat:=if 0<=i then(if i<n then some i.toNat else none)else if -(n:Int)<=i then some (i+n).toNat else none
def atI{α :Type}(xs:List α)(i:Int):Option α :=(ixN xs.length i).bind λj=>xs[j]?
theorem zyd{n:Nat}{i:Int}{j:Nat}(h:ixN n i=some j):seqIndex? i n=some j/\j<n/\ -(n:Int)<=i/\i<n:=by
 unfold ixN at h
 by_cases h0:0<=i
 ·rw[if_pos h0]at h
  by_cases h1:i<n
  ·rw[if_pos h1]at h
   have e:i.toNat=j:=Option.some.inj h
   exact⟨by rw[seqIndex_of h0 h1,e],by omega,by omega,h1⟩
  ·rw[if_neg h1]at h;cases h
 ·rw[if_neg h0]at h
  by_cases h1: -(n:Int)<=i
  ·rw[if_pos h1]at h
   have e:(i+n).toNat=j:=Option.some.inj h
   exact⟨by rw[seqIndex_neg (by omega) h1,e],by omega,h1,by omega⟩
  ·rw[if_neg h1]at h;cases h
theorem zrs{α :Type}{xs:List α}{i:Int}{v: α}(h:atI xs i=some v):∃ j,seqIndex? i xs.length=some j/\xs[j]? =some v/\j<xs.length/\ -(xs.length:Int)<=i/\i<xs.length:=by
  unfold atI at h
  cases e:ixN xs.length i with
  | none=>rw[e]at h;cases h
  | some j =>
    rw[e]at h
    obtain⟨h1,h2,h3,h4⟩:=zyd e
    exact⟨j,h1,h,h2,h3,h4⟩
theorem zrt{α :Type}{xs:List α}{j:Nat}{v: α}(h:xs[j]? =some v):atI xs (j:Int)=some v:=by
 have hj:j<xs.length:=(List.getElem?_eq_some_iff.mp h).1
 have e:ixN xs.length (j:Int)=some j:=by
  unfold ixN
  rw[if_pos (by omega),if_pos (by omega)];simp
 unfold atI;rw[e];exact h
def zye(b:Expr):Prop:=∀ o i,subscripted b false o i=operate [o,i] (getItem o i)
def IxR (X:Cx) (r:R2):Prop :=
  ∀ (value slice:Expr) (pins:List (Addr × Obj)) (s:Shared) (σ:St) (H:Hp) (x y:V) (v u:Value) (Q:VK),Inv X pins σ H s->RelV x v->RelV y u->r x y H Q →
    subscripted slice false v u=operate [v,u] (getItem v u)->wpAny (model X.prog X.w) X.A (subscriptTail value slice v u) (EP X pins σ Q) X.xe s
def MtR (X:Cx) (id:String) (r:V->List V->Hp->VK->Prop):Prop :=
  ∀ (pins:List (Addr × Obj)) (s:Shared) (σ:St) (H:Hp) (x:V) (xs:List V) (v:Value) (us:List Value) (Q:VK),Inv X pins σ H s->RelV x v->Vals xs us->r x xs H Q →
    wpAny (model X.prog X.w) X.A (call (.builtin id) (v::us)) (EP X pins σ Q) X.xe s
section
variable{X:Cx}{a b:Expr}{ta tb:TE}{pos:Pos}
theorem IxR.or{r r':R2}(h:IxR X r)(h':IxR X r'):IxR X (λx y H Q=>r x y H Q\/r' x y H Q):=by
 intro value slice pins s σ H x y v u Q I rx ry q hs
 rcases q with q | q
 ·exact h value slice pins s σ H x y v u Q I rx ry q hs
 ·exact h' value slice pins s σ H x y v u Q I rx ry q hs
theorem MtR.or{id:String}{r r':V->List V->Hp->VK->Prop}(h:MtR X id r)(h':MtR X id r'):MtR X id (λx xs H Q=>r x xs H Q\/r' x xs H Q):=by
 intro pins s σ H x xs v us Q I rx rs q
 rcases q with q | q
 ·exact h pins s σ H x xs v us Q I rx rs q
 ·exact h' pins s σ H x xs v us Q I rx rs q
theorem zfu{r:R2}(hr:IxR X r)(ha:PE X a ta)(hb:PE X b tb)(hs:zye b):PE X (.Subscript a b pos) (tOp r ta tb):=by
 intro pins s σ H Q I h
 exact Subscript_ (binT ha hb I h λv u s2 x y H2 I2 rx ry q=>hr a b pins s2 σ H2 x y v u Q I2 rx ry q (hs _ _))
def rIxL(K:PySem.W.Frag):R2:=λx y H Q=>∃ p xs i v,x=.ref p/\y=.int i/\SqL K H p xs/\atI xs i=some v/\Q v H
def rIxT(K:PySem.W.Frag):R2:=λx y H Q=>∃ p xs i v,x=.ref p/\y=.int i/\SqT K H p xs/\atI xs i=some v/\Q v H
def rIxS:R2:=λx y H Q=>∃ z i c,x=.str z/\y=.int i/\z.length<=sizeLine/\atI z.cps.toList i=some c/\Q (.str ⟨#[c]⟩) H
theorem ix_list:IxR X (rIxL X.K):=by
 intro value slice pins s σ H x y v u Q I rx ry h hs
 obtain⟨p,xs,i,z,rfl,rfl,hq,he,q⟩:=h
 cases rx
 obtain⟨t,rfl⟩:=ry
 obtain⟨its,r,pl,hz⟩:=I.list hq
 obtain⟨j,h1,h2,h3,h4,h5⟩:=zrs he
 obtain⟨w,ew,rw'⟩:=r.get h2
 have hl:=r.length
 have hn:=zp8
 have fin:EP X pins σ Q w s:=⟨z,H,I,rw',q⟩
 by_cases h0:0<=i
 ·have hj:i.toNat=j:=by
   rw[seqIndex_of h0 h5]at h1
   exact Option.some.inj h1
  exact item_listR pl.isList h0 (by omega) (by rw[hj];simpa using ew) fin hs
 ·have hj:(i+(its.toArray.size:Int)).toNat=j:=by
   rw[seqIndex_neg (by omega) h4]at h1
   rw[List.size_toArray,<-hl]
   exact Option.some.inj h1
  exact subscriptTail_builtinR (x:=w) pl.isList.typeIs slot_list_getitem.lookup
   (wpAny_getItem_list_neg (Q:=λr s'=>r=w/\EP X pins σ Q r s') pl.isList (by omega) (by rw[List.size_toArray]<;>omega) (by omega) (by rw[hj];simpa using ew) ⟨rfl,fin⟩) hs
theorem ix_tup:IxR X (rIxT X.K):=by
 intro value slice pins s σ H x y v u Q I rx ry h hs
 obtain⟨p,xs,i,z,rfl,rfl,hq,he,q⟩:=h
 cases rx
 obtain⟨t,rfl⟩:=ry
 obtain⟨its,r,pl,hz⟩:=I.tuple hq
 obtain⟨j,h1,h2,h3,h4,h5⟩:=zrs he
 obtain⟨w,ew,rw'⟩:=r.get h2
 have hl:=r.length
 have hn:=zp8
 have fin:EP X pins σ Q w s:=⟨z,H,I,rw',q⟩
 exact subscriptTail_builtinR (x:=w) pl.typeIs slot_tuple_getitem.lookup
  (getItem_tuple (j:=j) (Q:=λr s'=>r=w/\EP X pins σ Q r s') pl (by omega) (by omega) (by rw[List.size_toArray,<-hl];exact h1) (by simpa using ew) ⟨rfl,fin⟩) hs
theorem zaai:IxR X rIxS:=by
 intro value slice pins s σ H x y v u Q I rx ry h hs
 obtain⟨z,i,c,rfl,rfl,hz,he,q⟩:=h
 obtain⟨t,rfl⟩:=rx
 obtain⟨t',rfl⟩:=ry
 obtain⟨j,h1,h2,h3,h4,h5⟩:=zrs he
 have hl:z.cps.toList.length=z.length:=by simp[Str.length]
 rw[hl]at h1 h4 h5
 have hn:=zp8
 exact tail_any (typeIs_str s z t) slot_str_getitem.lookup (getItem_str (c:=c) (by
  have e1:decide (i< -(2 ^ 63:Int))=false:=decide_eq_false (by omega)
  have e2:decide (i ≥ 2 ^ 63)=false:=decide_eq_false (by omega)
  rw[e1,e2,Bool.or_false]) (by rw[h1];simpa using h2) ⟨.str ⟨#[c]⟩,H,I.tok _,⟨_,rfl⟩,q⟩) hs
def rIx(K:PySem.W.Frag):R2:=λx y H Q=>rIxL K x y H Q\/rIxT K x y H Q\/rIxS x y H Q
theorem zaaj:IxR X (rIx X.K):=ix_list.or (ix_tup.or zaai)
theorem Inv.lst{pins:List (Addr × Obj)}{σ:St}{H:Hp}{s:Shared}{p:Addr}{xs:List V}(I:Inv X pins σ H s)(h:H p=some (.lst xs)) :
  ∃ (its:List Value) (n:Nat),Vals xs its/\s.heap.get? p=some { cls:=.type "list",data:=.seq its.toArray n }/\xs.length<=sizeLine:=by
 obtain⟨z,its,n,r,e⟩:=I.hok p _ h
 exact⟨its,n,r,e,z⟩
def rSlL(K:PySem.W.Frag):V->Option Int->Option Int->Hp->VK->Prop:=λx lo hi H Q=>∃ a xs,x=.ref a/\SqL K H a xs/\∀ p,H p=none->Q (.ref p) (upd H p (.lst (cutV xs lo hi)))
def zlg:V->Bool
 | .non=>true
 | .bl _=>true
 | .int _=>true
 | .str _=>true
 | _=>false
def eqV:V->V->Bool
 | .non,.non=>true
 | .bl a,.bl b=>a == b
 | .bl a,.int b=>(if a then 1 else 0) == b
 | .int a,.bl b=>a ==(if b then 1 else 0)
 | .int a,.int b=>a == b
 | .str a,.str b=>a == b
 | _,_=>false
theorem zaak{A:Around}{s:Shared}{y x:V}{u v:Value}(ry:RelV y u)(rx:RelV x v)(fy:zlg y=true)(fx:zlg x=true):SeqAt.EqAt A s u v (eqV y x):=by
  cases y with
  | non =>
    cases ry
    cases x with
    | non=>cases rx;exact SeqAt.EqAt.same _
    | bl b=>cases rx;exact SeqAt.EqAt.none_bool b
    | int b=>obtain⟨t,rfl⟩:=rx;exact SeqAt.EqAt.none_int b t
    | str b=>obtain⟨t,rfl⟩:=rx;exact SeqAt.EqAt.none_str b t
    | _=>exact absurd (show false=true from fx) Bool.false_ne_true
  | bl a =>
    cases ry
    cases x with
    | non=>cases rx;exact SeqAt.EqAt.bool_none a
    | bl b=>cases rx;exact SeqAt.EqAt.bool_bool a b
    | int b=>obtain⟨t,rfl⟩:=rx;exact SeqAt.EqAt.bool_int a b t
    | str b=>obtain⟨t,rfl⟩:=rx;exact SeqAt.EqAt.bool_str a b t
    | _=>exact absurd (show false=true from fx) Bool.false_ne_true
  | int a =>
    obtain⟨t',rfl⟩:=ry
    cases x with
    | non=>cases rx;exact SeqAt.EqAt.int_none a t'
    | bl b=>cases rx;exact SeqAt.EqAt.int_bool a t' b
    | int b=>obtain⟨t,rfl⟩:=rx;exact SeqAt.EqAt.int_int a t' b t
    | str b=>obtain⟨t,rfl⟩:=rx;exact SeqAt.EqAt.int_str a t' b t
    | _=>exact absurd (show false=true from fx) Bool.false_ne_true
  | str a =>
    obtain⟨t',rfl⟩:=ry
    cases x with
    | non=>cases rx;exact SeqAt.EqAt.str_none a t'
    | bl b=>cases rx;exact SeqAt.EqAt.str_bool a t' b
    | int b=>obtain⟨t,rfl⟩:=rx;exact SeqAt.EqAt.str_int a t' b t
    | str b=>obtain⟨t,rfl⟩:=rx;exact SeqAt.EqAt.str_str a t' b t
    | _=>exact absurd (show false=true from fx) Bool.false_ne_true
  | _=>exact absurd (show false=true from fy) Bool.false_ne_true
def eqU(x:V)(u:Value):Bool:=match u with
 | .none=>eqV .non x
 | .bool b=>eqV (.bl b) x
 | .int i _=>eqV (.int i) x
 | .str z _=>eqV (.str z) x
 | _=>false
theorem zxq{x y:V}{u:Value}(r:RelV y u)(f:zlg y=true):eqU x u=eqV y x:=by
 cases y with
 | non=>cases r;rfl
 | bl b=>cases r;rfl
 | int i=>obtain⟨t,rfl⟩:=r;rfl
 | str z=>obtain⟨t,rfl⟩:=r;rfl
 | _=>exact absurd (show false=true from f) Bool.false_ne_true
theorem zru{x:V}:∀ {xs:List V} {us:List Value},Vals xs us->xs.all zlg=true->us.any (eqU x)=xs.any λy=>eqV y x
  | _,_,.nil,_=>rfl
  | y::xs,u::us,.cons r t,f=>by
    rw[List.all_cons,Bool.and_eq_true]at f
    rw[List.any_cons,List.any_cons,zxq r f.1,zru t f.2]
theorem zo0{A:Around}{s:Shared}{x:V}{v:Value}(rx:RelV x v)(fx:zlg x=true):∀ {xs:List V} {us:List Value},Vals xs us->xs.all zlg=true->∀ u∈us,SeqAt.EqAt A s u v (eqU x u)
  | _,_,.nil,_=>λu hu=>by cases hu
  | y::xs,u::us,.cons r t,f=>λu' hu=>by
    rw[List.all_cons,Bool.and_eq_true]at f
    rcases List.mem_cons.mp hu with rfl | hu
    ·rw[zxq r f.1];exact zaak r rx f.1 fx
    ·exact zo0 rx fx t f.2 u' hu
def inV(x:V)(xs:List V):Bool:=xs.any λy=>eqV y x
def rIn(K:PySem.W.Frag)(neg:Bool):R2:=λx y H Q=>∃ p xs,y=.ref p/\(SqL K H p xs\/SqT K H p xs)/\zlg x=true/\xs.all zlg=true/\Q (.bl (if neg then !inV x xs else inV x xs)) H
theorem zul:OpR X (compareOp .In) (rIn X.K false):=by
 intro pins s σ H x y v u Q I rx ry h
 obtain⟨p,xs,rfl,hq,fx,fs,q⟩:=h
 cases ry
 rcases hq with hq | hq
 ·obtain⟨its,r,pl,hz⟩:=I.list hq
  refine SeqAt.in_listAt (eqU x) pl.isList (λw hw=>zo0 rx fx r fs w (by simpa using hw)) ⟨.bl _,H,I,rfl,?_⟩
  rw[show its.toArray.any (eqU x)=its.any (eqU x) by simp,zru r fs]
  exact q
 ·obtain⟨its,r,pl,hz⟩:=I.tuple hq
  refine SeqAt.in_tupleAt (eqU x) pl (λw hw=>zo0 rx fx r fs w (by simpa using hw)) ⟨.bl _,H,I,rfl,?_⟩
  rw[show its.toArray.any (eqU x)=its.any (eqU x) by simp,zru r fs]
  exact q
theorem CallR.or{f:Value}{r r':List V->Hp->VK->Prop}(h:CallR X f r)(h':CallR X f r'):CallR X f (λxs H Q=>r xs H Q\/r' xs H Q):=by
 intro pins s σ H xs us Q I rs q
 rcases q with q | q
 ·exact h pins s σ H xs us Q I rs q
 ·exact h' pins s σ H xs us Q I rs q
theorem zqf:CallR X (.type "list") (λxs H Q=>∃ p ys,xs=[.ref p]/\(SqL X.K H p ys\/SqT X.K H p ys)/\∀ l,H l=none->Q (.ref l) (upd H l (.lst ys))):=by
 intro pins s σ H xs us Q I r h
 obtain⟨p,ys,rfl,hq,q⟩:=h
 obtain⟨u,rfl,rx⟩:=zp9 r
 cases rx
 have fin:∀ (its:List Value),Vals ys its->ys.length<=sizeLine->∀ (h':Heap) (c':Nat),(∀ b o',s.heap.get? b=some o'->h'.get? b=some o') →
   h'.get? s.heap.objs.size=some { cls:=.type "list",dict:=none,data:=.seq its.toArray c',slots:= #[] }->EP X pins σ Q (.ref s.heap.objs.size) { s with heap:=h' }:=λits r' hz h' c' kp e =>
  ⟨.ref s.heap.objs.size,_,I.laid (t':=s.toks) kp (Nat.le_refl _) (show ObjOk X.prog X.w _ h' _ (.lst ys)from⟨hz,its,c',r',e⟩),rfl,q _ (I.hok.fresh (Nat.le_refl _))⟩
 rcases hq with hq | hq
 ·obtain⟨its,r',pl,hz⟩:=I.list hq
  have hlen:=r'.length
  obtain⟨o,ho,hc,n,hd⟩:=pl.isList
  exact call_list_seq p (.inl rfl) ho hc hd (λh' c' kp e=>fin its r' hz h' c' kp e) (by simp only[List.size_toArray]<;>omega)
 ·obtain⟨its,r',pl,hz⟩:=I.tuple hq
  have hlen:=r'.length
  obtain⟨o,ho,hc,n,hd⟩:=pl
  exact call_list_seq p (.inr rfl) ho hc hd (λh' c' kp e=>fin its r' hz h' c' kp e) (by simp only[List.size_toArray]<;>omega)
theorem zo1:CallR X (.type "tuple") (λxs H Q=>∃ p ys,xs=[.ref p]/\((SqL X.K H p ys/\∀ l,H l=none->Q (.ref l) (upd H l (.tup ys)))\/(SqT X.K H p ys/\Q (.ref p) H))):=by
 intro pins s σ H xs us Q I r h
 obtain⟨p,ys,rfl,h⟩:=h
 obtain⟨u,rfl,rx⟩:=zp9 r
 cases rx
 rcases h with⟨hq,q⟩ | ⟨hq,q⟩
 ·obtain⟨its,r',pl,hz⟩:=I.list hq
  have hlen:=r'.length
  refine call_tuple_list pl.isList (λh' kp=> ?_) (by simp only[List.size_toArray]<;>omega)
  have I1:Inv X pins σ H { s with heap:=h' }:=I.kept (t':=s.toks) kp
  have I2:Inv X pins σ (upd H h'.objs.size (.tup ys)) { s with heap:=h'.push { cls:=.type "tuple",data:=.seq its.toArray } } :=
   I1.laid (t':=s.toks) (λb o e=>Heap.get?_push_of_some _ e) (Nat.le_refl _) (show ObjOk X.prog X.w _ _ _ (.tup ys)from⟨hz,its,r',IsTup.new _ _⟩)
  exact⟨.ref h'.objs.size,_,I2,rfl,q _ (I1.hok.fresh (Nat.le_refl _))⟩
 ·obtain⟨its,r',pl,hz⟩:=I.tuple hq
  exact call_tuple_same pl ⟨.ref p,H,I,rfl,q⟩
def tyV(K:PySem.W.Frag)(T:String)(x:V)(H:Hp):Prop:=match x with
 | .str _=>T="str"
 | .int _=>T="int"
 | .ref p=>(T="list"/\∃ xs,SqL K H p xs)\/(T="tuple"/\∃ o,K.lookup p=some o/\o.cls=.type "tuple"/\o.dict=none) ∨
   (T="dict"/\((∃ kvs,H p=some (.dK kvs))\/∃ kvs,H p=some (.dT kvs)))\/(T="set"/\∃ S n,H p=some (.set S n))
 | _=>False
theorem zaal {pins:List (Addr × Obj)} {σ:St} {H:Hp} {s:Shared} {T:String} {x:V} {v:Value} (I:Inv X pins σ H s) (r:RelV x v) (ty:tyV X.K T x H) :
    s.TypeIs v T/\∀ a,v=.ref a->∃ ob,s.heap.get? a=some ob/\ob.dict=none:=by
  cases x with
  | str z =>
    obtain⟨t,rfl⟩:=r
    cases (show T="str" from ty)
    exact⟨typeIs_str s z t,λ_ e=>nomatch e⟩
  | int i =>
    obtain⟨t,rfl⟩:=r
    cases (show T="int" from ty)
    exact⟨typeIs_int s i t,λ_ e=>nomatch e⟩
  | ref p =>
    cases r
    rcases ty with⟨rfl,xs,hq⟩ | ⟨rfl,o,hk,hc,hd⟩ | ⟨rfl,hk⟩ | ⟨rfl,S,n,hk⟩
    · obtain⟨its,_,pl,_⟩:=I.list hq
      refine⟨pl.isList.typeIs,λa e=> ?_⟩
      cases e
      obtain⟨o,n,e,c,hd,_⟩:=pl
      exact⟨o,e,hd⟩
    · refine⟨⟨o,I.kIn p o hk,hc⟩,λa e=> ?_⟩
      cases e
      exact⟨o,I.kIn _ o hk,hd⟩
    · have z:∃ o,s.heap.get? p=some o/\o.ExactDict:=by
        rcases hk with⟨kvs,hk⟩ | ⟨kvs,hk⟩
        · obtain⟨_,_,_,_,o,_,_,e,ex,_⟩:=I.hok p _ hk
          exact⟨o,e,ex⟩
        · obtain⟨_,_,_,_,o,_,_,e,ex,_⟩:=I.hok p _ hk
          exact⟨o,e,ex⟩
      obtain⟨o,e,ex⟩:=z
      refine⟨⟨o,e,ex.1⟩,λa e2=> ?_⟩
      cases e2
      exact⟨o,e,ex.2.1⟩
    · obtain⟨o,_,_,_,e,ex,_⟩:=I.hok p _ hk
      refine⟨⟨o,e,ex.1⟩,λa e2=> ?_⟩
      cases e2
      exact⟨o,e,ex.2.1⟩
  | _=>exact False.elim ty
def tBM0(K:PySem.W.Frag)(T:String)(r:V->List V->Hp->VK->Prop)(to:TE):TE:=λσ H Q=>to σ H λx H1=>tyV K T x H1/\r x [] H1 Q
def tBM(K:PySem.W.Frag)(T:String)(r:V->List V->Hp->VK->Prop)(to:TE)(t:TA):TE:=λσ H Q=>to σ H λx H1=>tyV K T x H1/\t σ H1 λxs H2=>r x xs H2 Q
variable{o e:Expr}{es:List Expr}{to:TE}{t:TA}{name:Str}{apos cpos:Pos}{T id:String}{r:V->List V->Hp->VK->Prop}
theorem zwa(pa:PlainAttrs T)(slot:Slot T name id)(hty:typeOf (.builtin id)=pure (.type "method_descriptor"))(hm:MtR X id r)(ho:PE X o to)(ha:PA X (e::es) t)
  (hbase:attributeBase o name X.env (eval o X.env)=eval o X.env:=by rfl)
  (hfew:((backTo cpos (starEach (e::es) X.env)).all (λx=> !x.1) && (backToKw cpos (keywordEach [] X.env)).all (λx=>x.1.isSome)
   && decide ((e::es).length+([]:List Keyword).length+(if([]:List Keyword).isEmpty then 0 else 1)<30))=true:=by rfl)
  (hline:(apos.endLine == cpos.line)=true:=by rfl) (hs:starEach (e::es) X.env=(false,eval e X.env)::starEach es X.env:=by rfl) (hplain:(backTo cpos (starEach es X.env)).any (·.1)=false:=by rfl) :
  PE X (.Call (.Attribute o name apos) (e::es) [] cpos) (tBM X.K T r to t):=by
 intro pins s σ H Q I h
 refine wpAny_Call_method_late hbase hfew hline rfl (thn (ho pins s σ H _ I h) λv s1 ⟨x,H1,I1,r1,ty,q1⟩=> ?_)
 obtain⟨h1,h2⟩:=zaal I1 r1 ty
 refine⟨T,id,pa,slot,hty,h1,h2,?_⟩
 have hA:=ha cpos pins s1 σ H1 _ I1 q1
 rw[hs]at hA ⊢
 refine Calls.callWith_builtin (by show(false || (backTo cpos (starEach es X.env)).any (·.1))=false;rw[hplain]<;>rfl) (Calls.evalArgs_plain ?_)
 exact thn hA λus s2 ⟨vs,H2,I2,r2,q2⟩=>hm pins s2 σ H2 x vs v us Q I2 r1 r2 q2
end
end L2
namespace L2
open PySem PySem.Spec PyProof.Rows
def MtM (X:Cx) (id:String) (r:V->List V->Hp->VK->Prop):Prop :=
  ∀ (pins:List (Addr × Obj)) (s:Shared) (σ:St) (H:Hp) (x:V) (xs:List V) (v:Value) (us:List Value) (Q:VK),Inv X pins σ H s->RelV x v->Vals xs us->r x xs H Q →
    wpAny (model X.prog X.w) X.A (call (.builtin id) (v::us)) (EP X pins σ Q) X.xe s
theorem Vals.one:∀ {x:V} {us:List Value},Vals [x] us->∃ u,us=[u]/\RelV x u
 | _,_,.cons r .nil=>⟨_,rfl,r⟩
theorem Vals.two:∀ {x y:V} {us:List Value},Vals [x,y] us->∃ u v,us=[u,v]/\RelV x u/\RelV y v
 | _,_,_,.cons r (.cons q .nil)=>⟨_,_,rfl,r,q⟩
theorem Vals.zero:∀ {us:List Value},Vals [] us->us=[]
 | _,.nil=>rfl
theorem Vals.eraseIdx:∀ {xs:List V} {us:List Value} (i:Nat),Vals xs us->Vals (xs.eraseIdx i) (us.eraseIdx i)
 | _,_,_,.nil=>.nil
 | _,_,0,.cons _ t=>t
 | _,_,i+1,.cons r t=>.cons r (Vals.eraseIdx i t)
theorem Vals.reverse{xs:List V}{us:List Value}(h:Vals xs us):Vals xs.reverse us.reverse:=by
 induction h with
 | nil=>exact .nil
 | cons r t ih=>rw[List.reverse_cons,List.reverse_cons];exact Vals.append ih (.cons r .nil)
theorem Vals.rep{xs:List V}{us:List Value}(h:Vals xs us):∀ k:Nat,Vals (List.replicate k xs).flatten (List.replicate k us).flatten
  | 0=>.nil
  | k+1=>by
    rw[List.replicate_succ,List.replicate_succ,List.flatten_cons,List.flatten_cons]
    exact Vals.append h (Vals.rep h k)
theorem zjk(its:List Value):∀ (k:Nat) (acc:List Value),
    List.foldl (λx1 x2=>x1++x2) acc.toArray (List.replicate k its.toArray)=(acc++(List.replicate k its).flatten).toArray
  | 0,acc=>by simp
  | k + 1,acc=>by
    have e:acc.toArray++its.toArray=(acc++its).toArray:=by simp
    have e2:(acc++its)++(List.replicate k its).flatten=acc++(List.replicate (k+1) its).flatten:=by
      rw[List.replicate_succ,List.flatten_cons,List.append_assoc]
    rw[<-e2,<-zjk its k (acc++its),<-e,List.replicate_succ,List.foldl_cons]
section
variable{X:Cx}{pins:List (Addr × Obj)}{σ:St}{H:Hp}{s:Shared}{l b:Addr}{xs ys zs:List V}
theorem Inv.lset{its its':List Value}{n:Nat}{f:Array Value->Array Value}{t':Nat}(I:Inv X pins σ H s)(hH:H l=some (.lst xs))
  (e:s.heap.get? l=some { cls:=.type "list",data:=.seq its.toArray n }) (hf:f its.toArray=its'.toArray) (hv:Vals ys its') (hz:ys.length<=sizeLine) :
  Inv X pins σ (upd H l (.lst ys)) { s with heap:=s.heap.update l (Obj.mapSeq f),toks:=t' }:=by
 have q:=PySem.IsL.update e f
 rw[hf]at q
 refine I.write (x:=l) (e:=l) (by rw[hH];exact trivial) (.inl rfl) (λb' u hb hu=>(Heap.get?_update_other s.heap (Obj.mapSeq f) (Ne.symm hb)).trans hu) ⟨_,q⟩ ?_
 exact⟨hz,its',_,hv,q⟩
theorem Inv.lnew{its:List Value}{t':Nat}(I:Inv X pins σ H s)(hv:Vals ys its)(hz:ys.length<=sizeLine) :
  Inv X pins σ (upd H s.heap.objs.size (.lst ys)) { s with heap:=s.heap.push { cls:=.type "list",data:=.seq its.toArray },toks:=t' } :=
 I.laid (λ_ _ q=>Heap.get?_push_of_some _ q) (Nat.le_refl _) ⟨hz,its,0,hv,Heap.get?_push_size _ rfl⟩
theorem Inv.fresh(I:Inv X pins σ H s):H s.heap.objs.size=none:=I.hok.fresh (Nat.le_refl _)
theorem Inv.lstM(I:Inv X pins σ H s)(hH:H l=some (.lst xs)):xs.length<=sizeLine/\∃ (its:List Value) (n:Nat),Vals xs its/\xs.length=its.length/\s.heap.get? l=some { cls:=.type "list",data:=.seq its.toArray n }:=by
 obtain⟨z,its,n,r,e⟩:=I.hok l _ hH
 exact⟨z,its,n,r,r.length,e⟩
theorem zwb{n:Nat}(h:n<=sizeLine):Builtin.List.listTooLong n=false:=by
 unfold Builtin.List.listTooLong
 exact decide_eq_false (by omega)
end
section
variable{X:Cx}
def zum:V->List V->Hp->VK->Prop:=λx vs H Q=>∃ l xs y,x=.ref l/\vs=[y]/\H l=some (.lst xs)/\xs.length<sizeLine/\Q .non (upd H l (.lst (xs++[y])))
theorem zjl:MtM X "list.append" zum:=by
 intro pins s σ H x vs v us Q I rx rv h
 obtain⟨l,xs,y,rfl,rfl,hH,hz,q⟩:=h
 cases rx
 obtain⟨u,rfl,ru⟩:=rv.one
 obtain⟨z,its,n,r,hl,e⟩:=I.lstM hH
 refine call_meets F.slot_list_append ⟨_,e,rfl⟩ F.entry_list_append (F.args_list_append_2 _ _) (PySem.list_append l its.toArray n u (by rw[List.size_toArray];omega)) ⟨e,?_⟩
 refine⟨.non,_,I.lset (its':=its++[u]) hH e (by simp) (r.append (.cons ru .nil)) ?_,rfl,q⟩
 rw[List.length_append,List.length_singleton]
 omega
def rCat:R2:=λx y H Q=>∃ l b xs zs,x=.ref l/\y=.ref b/\H l=some (.lst xs)/\H b=some (.lst zs)/\xs.length+zs.length<=sizeLine/\∀ p,H p=none->Q (.ref p) (upd H p (.lst (xs++zs)))
theorem zaam:OpR X (binaryOp .Add) rCat:=by
 intro pins s σ H x y v u Q I rx ry h
 obtain⟨l,b,xs,zs,rfl,rfl,hH,hB,hz,q⟩:=h
 cases rx
 cases ry
 obtain⟨z,its,n,r,hl,e⟩:=I.lstM hH
 obtain⟨z2,its2,n2,r2,hl2,e2⟩:=I.lstM hB
 refine PySem.P.add_list e e2 ?_ (by rw[List.size_toArray,List.size_toArray];omega)
 have ea:its.toArray++its2.toArray=(its++its2).toArray:=by simp
 rw[ea]
 exact⟨.ref _,_,I.lnew (t':=s.toks) (r.append r2) (by rw[List.length_append];omega),rfl,q _ I.fresh⟩
def rRep:R2:=λx y H Q=>∃ l k xs,x=.ref l/\y=.int k/\H l=some (.lst xs)/\ -(2 ^ 63)<=k/\k<2 ^ 63/\xs.length * k.toNat<=sizeLine ∧
 ∀ p,H p=none->Q (.ref p) (upd H p (.lst (List.replicate k.toNat xs).flatten))
theorem zun{α :Type}(xs:List α)(k:Nat):(List.replicate k xs).flatten.length=k * xs.length:=by
 induction k with
 | zero=>simp
 | succ k ih=>rw[List.replicate_succ,List.flatten_cons,List.length_append,ih,Nat.succ_mul,Nat.add_comm]
theorem zaan:OpR X (binaryOp .Mult) rRep:=by
 intro pins s σ H x y v u Q I rx ry h
 obtain⟨l,k,xs,rfl,rfl,hH,h1,h2,hz,q⟩:=h
 cases rx
 obtain⟨t,rfl⟩:=ry
 obtain⟨z,its,n,r,hl,e⟩:=I.lstM hH
 have hlen:its.toArray.size * k.toNat<=sizeLine:=by rw[List.size_toArray,<-hl];exact hz
 have hcap:¬ its.toArray.size * k.toNat >(2 ^ 63 - 1) / 8:=by
  have:(sizeLine:Nat)<=(2 ^ 63 - 1) / 8:=by decide
  omega
 have hfit:¬ (!Builtin.List.listFitsIndex k)=true:=by
  rw[fitsIndex_both h1 h2]
  exact Bool.false_ne_true
 have hlong:¬ Builtin.List.listTooLong (its.toArray.size * k.toNat)=true:=by
  rw[zwb hlen]
  exact Bool.false_ne_true
 have hnew:List.foldl (λx1 x2=>x1++x2) #[] (List.replicate (if its.toArray.isEmpty=true then 0 else k.toNat) its.toArray)=(List.replicate k.toNat its).flatten.toArray:=by
  have f0:∀ m:Nat,List.foldl (λx1 x2=>x1++x2) #[] (List.replicate m its.toArray)=(List.replicate m its).flatten.toArray:=λm=>by
   have:=zjk its m []
   rw[List.nil_append]at this
   exact this
  rw[f0]
  cases its with
  | nil=>simp
  | cons a r'=>rw[if_neg (by simp)]
 refine wpAny_binaryOp_repeat_ref (T:="list") (U:="int") (by decide) ⟨_,e,rfl⟩ (λs'=>typeIs_int s' k t) noFill_list_mul F.fills_int_mul F.slot_int_rmul repeat_list F.slot_int_index.lookup
  (call_meets F.slot_int_rmul (typeIs_int s k t) F.entry_int_rmul (F.args_int_rmul_2 _ _) (int___rmul___int_list k t l its.toArray n)
   ⟨e,rfl,⟨_,e,rfl⟩,call_meets F.slot_list_mul ⟨_,e,rfl⟩ F.entry_list_mul (F.args_list_mul_2 _ _) (AutoListH.list___mul___list_int_3 l its.toArray n k t hfit hcap hlong) ⟨e,?_⟩⟩)
 rw[hnew]
 exact⟨.ref _,_,I.lnew (t':=s.toks) (r.rep k.toNat) (by rw[zun,Nat.mul_comm];exact hz),rfl,q _ I.fresh⟩
end
section
variable{prog:Program}{w:World}{A:Around}{E:Value->Shared->Prop}{s:Shared}
set_option maxRecDepth 100000 in
end
section
variable{X:Cx}
end
end L2
namespace L2
open PySem PySem.Spec PyProof.Rows
section
variable{κ :Type}[DecidableEq κ]
def valV(kvs:List (κ × V))(k: κ):Option V:=(kvs.find? λkv=>decide (kv.1=k)).map (·.2)
def putK(kvs:List (κ × V))(k: κ)(v:V):List (κ × V) :=
 if(kvs.any λkv=>decide (kv.1=k))=true then kvs.map (λkv=>if kv.1=k then(kv.1,v)else kv)else kvs++[(k,v)]
def zaao(kvs:List (κ × V))(k: κ):List (κ × V):=kvs.filter λkv=>decide (kv.1≠k)
theorem zd4{p: κ × V}{r:List (κ × V)}{k: κ}(e:p.1=k):valV (p::r) k=some p.2:=by simp[valV,List.find?_cons,e]
theorem zd5{p: κ × V}{r:List (κ × V)}{k: κ}(e:¬ p.1=k):valV (p::r) k=valV r k:=by simp[valV,List.find?_cons,e]
theorem zhk(k: κ):∀ kvs:List (κ × V),(kvs.any λkv=>decide (kv.1=k))=(valV kvs k).isSome
  | []=>rfl
  | p::r=>by
    rw[List.any_cons]
    by_cases e:p.1=k
    ·simp only[zd4 e,decide_eq_true e,Bool.true_or,Option.isSome_some]
    ·rw[zd5 e,decide_eq_false e,Bool.false_or];exact zhk k r
theorem zss(k j: κ)(y:V):∀ kvs:List (κ × V),valV (kvs.map λkv=>if kv.1=k then(kv.1,y)else kv) j=(valV kvs j).map λx=>if j=k then y else x
  | []=>rfl
  | p :: r=>by
    have ih:=zss k j y r
    rw[List.map_cons]
    by_cases h:p.1=k
    · rw[if_pos h]
      by_cases e:p.1=j
      ·rw[zd4 (p:=(p.1,y)) e,zd4 e,Option.map_some,if_pos (e.symm.trans h)]
      ·rw[zd5 (p:=(p.1,y)) e,zd5 e,ih]
    · rw[if_neg h]
      by_cases e:p.1=j
      ·rw[zd4 (p:=p) e,zd4 e,Option.map_some,if_neg (λz=>h (e.trans z))]
      ·rw[zd5 (p:=p) e,zd5 e,ih]
theorem zqg(k j: κ)(y:V):∀ kvs:List (κ × V),valV kvs k=none->valV (kvs++[(k,y)]) j=if j=k then some y else valV kvs j
  | [],_=>by
    by_cases e:k=j
    ·rw[if_pos e.symm];exact zd4 (p:=(k,y)) e
    ·rw[if_neg (λz=>e z.symm)];exact zd5 (p:=(k,y)) e
  | p::r,hn=>by
    rw[List.cons_append]
    have hk:¬ p.1=k:=λz=>by rw[zd4 z]at hn;cases hn
    rw[zd5 hk]at hn
    have ih:=zqg k j y r hn
    by_cases e:p.1=j
    ·rw[zd4 e,zd4 e,if_neg (λz=>hk (e.trans z))]
    ·rw[zd5 e,zd5 e,ih]
theorem zwc(kvs:List (κ × V))(k j: κ)(y:V):valV (putK kvs k y) j=if j=k then some y else valV kvs j:=by
 unfold putK
 by_cases a:(kvs.any λkv=>decide (kv.1=k))=true
 ·rw[if_pos a,zss]
  rw[zhk]at a
  by_cases e:j=k
  ·obtain⟨x,hx⟩:=Option.isSome_iff_exists.mp a
   rw[if_pos e,e,hx,Option.map_some,if_pos rfl]
  ·rw[if_neg e]
   cases valV kvs j with
   | none=>rfl
   | some x=>rw[Option.map_some,if_neg e]
 ·rw[if_neg a]
  refine zqg k j y kvs ?_
  rw[zhk]at a
  cases q:valV kvs k with
  | none=>rfl
  | some x=>rw[q]at a;exact(a rfl).elim
theorem zh8(kvs:List (κ × V))(k: κ)(v:V):(putK kvs k v).length<=kvs.length+1:=by
 unfold putK
 split
 ·rw[List.length_map];omega
 ·rw[List.length_append,List.length_cons,List.length_nil];omega
theorem zst{kvs:List (κ × V)}{k: κ}(v:V)(h:valV kvs k=none):putK kvs k v=kvs++[(k,v)]:=by
 unfold putK
 rw[zhk,h]
 exact if_neg (by decide)
theorem RelO.isSome_eq{o:Option V}{u:Option Value}(r:RelO o u):o.isSome=u.isSome:=by
  cases o with
  | none=>cases u with
    | none=>rfl
    | some _=>exact(show False from r).elim
  | some _=>cases u with
    | none=>exact(show False from r).elim
    | some _=>rfl
theorem RelO.getD{o:Option V}{u:Option Value}{d:V}{d':Value}(r:RelO o u)(rd:RelV d d'):RelV (o.getD d) (u.getD d'):=by
  cases o with
  | none=>cases u with
    | none=>exact rd
    | some _=>exact(show False from r).elim
  | some _=>cases u with
    | none=>exact(show False from r).elim
    | some _=>exact r
theorem KV.val{kvs:List (κ × V)}{vs:List (κ × Value)}(r:KV kvs vs)(k: κ):RelO (valV kvs k) (valueAt vs k):=by
  unfold KV at r
  induction r with
  | nil=>exact True.intro
  | @cons p q ps qs h t ih =>
    obtain⟨h1,h2⟩:=h
    by_cases e:p.1=k
    · have e':q.1=k:=h1.symm.trans e
      have b:valueAt (q::qs) k=some q.2:=by simp[valueAt,List.find?_cons,e']
      rw[zd4 e,b];exact h2
    · have e':¬ q.1=k:=λz=>e (h1.trans z)
      have b:valueAt (q::qs) k=valueAt qs k:=by simp[valueAt,List.find?_cons,e']
      rw[zd5 e,b];exact ih
theorem KV.any{kvs:List (κ × V)}{vs:List (κ × Value)}(r:KV kvs vs)(k: κ):(kvs.any λkv=>decide (kv.1=k))=vs.any λkv=>decide (kv.1=k):=by
 unfold KV at r
 induction r with
 | nil=>rfl
 | cons h t ih=>rw[List.any_cons,List.any_cons,ih,h.1]
theorem KV.repl{kvs:List (κ × V)}{vs:List (κ × Value)}(r:KV kvs vs)(k: κ){y:V}{u:Value}(ry:RelV y u) :
    KV (kvs.map λkv=>if kv.1=k then(kv.1,y)else kv) (vs.map λkv=>if kv.1=k then(kv.1,u)else kv):=by
  unfold KV at r ⊢
  induction r with
  | nil=>exact .nil
  | @cons p q ps qs h t ih =>
    rw[List.map_cons,List.map_cons]
    refine .cons ?_ ih
    obtain⟨h1,h2⟩:=h
    by_cases e:p.1=k
    ·rw[if_pos e,if_pos (h1.symm.trans e)];exact⟨h1,ry⟩
    ·rw[if_neg e,if_neg (λz=>e (h1.trans z))];exact⟨h1,h2⟩
theorem KV.put{kvs:List (κ × V)}{vs:List (κ × Value)}(r:KV kvs vs)(k: κ){y:V}{u:Value}(ry:RelV y u):KV (putK kvs k y) (stored vs k u):=by
 unfold putK stored
 rw[r.any k]
 by_cases e:(vs.any λkv=>decide (kv.1=k))=true
 ·rw[if_pos e,if_pos e];exact r.repl k ry
 ·rw[if_neg e,if_neg e];exact Paired.snoc r ⟨rfl,ry⟩
theorem KV.drop{kvs:List (κ × V)}{vs:List (κ × Value)}(r:KV kvs vs)(k: κ):KV (zaao kvs k) (without vs k):=by
  unfold KV at r ⊢
  unfold zaao without
  induction r with
  | nil=>exact .nil
  | @cons p q ps qs h t ih =>
    obtain⟨h1,h2⟩:=h
    rw[List.filter_cons,List.filter_cons]
    by_cases e:p.1=k
    · have a:¬ decide (p.1≠k)=true:=by simp[e]
      have b:¬ decide (q.1≠k)=true:=by simp[h1.symm.trans e]
      rw[if_neg a,if_neg b];exact ih
    · have e':¬ q.1=k:=λz=>e (h1.trans z)
      have a:decide (p.1≠k)=true:=by simp[e]
      have b:decide (q.1≠k)=true:=by simp[e']
      rw[if_pos a,if_pos b];exact .cons ⟨h1,h2⟩ ih
theorem KV.keys{kvs:List (κ × V)}{vs:List (κ × Value)}(r:KV kvs vs):kvs.map (·.1)=vs.map (·.1):=by
 unfold KV at r
 induction r with
 | nil=>rfl
 | cons h t ih=>rw[List.map_cons,List.map_cons,ih,h.1]
theorem KV.length{kvs:List (κ × V)}{vs:List (κ × Value)}(r:KV kvs vs):kvs.length=vs.length:=Paired.length r
end
theorem zuo{P:Program}{w:World}{k:Key}{u:Value}(r:RelV (kV k) u):(zdq P w).is k u=true:=by
 cases k with
 | inl i=>obtain⟨t,e⟩:=(show ∃ t,u=Value.int i t from r);subst e;exact zro P w i t
 | inr x=>obtain⟨t,e⟩:=(show ∃ t,u=Value.str x t from r);subst e;exact zrp P w x t
theorem zqh{P:Program}{w:World}:∀ {ks:List Key} {us:List Value},Vals (ks.map kV) us->ItemsAre (zdq P w) ks us
  | [],_,r=>by rw[List.map_nil]at r;cases r;exact .nil
  | k::ks,_,r=>by
    rw[List.map_cons]at r
    cases r with
    | cons h t=>exact .cons (zuo h) (zqh t)
abbrev KT(H:Hp):List (List Key × V)->List (List Key × Addr × Value)->Prop:=Paired λp q=>p.1=q.1/\H q.2.1=some (.tup (p.1.map kV))/\RelV p.2 q.2.2
theorem KT.val{H:Hp}{kvs:List (List Key × V)}{xs:List (List Key × Addr × Value)}(r:KT H kvs xs)(k:List Key):RelO (valV kvs k) ((atKey xs k).map (·.2)):=by
  induction r with
  | nil=>exact True.intro
  | @cons p q ps qs h t ih =>
    obtain⟨h1,_,h2⟩:=h
    by_cases e:p.1=k
    · have e':q.1=k:=h1.symm.trans e
      have b:atKey (q::qs) k=some q.2:=by simp[atKey,List.find?_cons,e']
      rw[zd4 e,b];exact h2
    · have e':¬ q.1=k:=λz=>e (h1.trans z)
      have b:atKey (q::qs) k=atKey qs k:=by simp[atKey,List.find?_cons,e']
      rw[zd5 e,b];exact ih
theorem KT.repl{H:Hp}{kvs:List (List Key × V)}{xs:List (List Key × Addr × Value)}(r:KT H kvs xs)(k:List Key){y:V}{u:Value}(ry:RelV y u) :
    KT H (kvs.map λkv=>if kv.1=k then(kv.1,y)else kv) (xs.map (putAt k u)):=by
  induction r with
  | nil=>exact .nil
  | @cons p q ps qs h t ih =>
    rw[List.map_cons,List.map_cons]
    refine .cons ?_ ih
    obtain⟨h1,h2,h3⟩:=h
    unfold putAt
    by_cases e:p.1=k
    ·rw[if_pos e,if_pos (h1.symm.trans e)];exact⟨h1,h2,ry⟩
    ·rw[if_neg e,if_neg (λz=>e (h1.trans z))];exact⟨h1,h2,h3⟩
theorem KT.put{H:Hp}{kvs:List (List Key × V)}{xs:List (List Key × Addr × Value)}(r:KT H kvs xs)(k:List Key){b:Addr}{y:V}{u:Value}(hb:H b=some (.tup (k.map kV)))(ry:RelV y u) :
  KT H (putK kvs k y) (storedH xs k b u):=by
 have e:(kvs.any λkv=>decide (kv.1=k))=(atKey xs k).isSome:=by
  rw[zhk,(r.val k).isSome_eq,Option.isSome_map]
 unfold putK storedH
 rw[e]
 by_cases q:(atKey xs k).isSome=true
 ·rw[if_pos q,if_pos q];exact r.repl k ry
 ·rw[if_neg q,if_neg q];exact Paired.snoc r ⟨rfl,hb,ry⟩
theorem KT.keeps{H H':Hp}{kvs:List (List Key × V)}{xs:List (List Key × Addr × Value)}(r:KT H kvs xs)(ht:∀ b ys,H b=some (.tup ys)->H' b=some (.tup ys)):KT H' kvs xs :=
 Paired.mapP r λ_ _ z=>⟨z.1,ht _ _ z.2.1,z.2.2⟩
section
variable{P:Program}{w:World}{H:Hp}{h:Heap}{a:Addr}
theorem zaap{u:HO}(ok:HOk P w H h)(e:Rd H a u):ObjOk P w H h a u:=e.ok ok
theorem ztk{kvs:List (Key × V)}(ok:HOk P w H h)(e:Rd H a (.dK kvs)):kvs.length<=sizeLine/\(a == sysModules)=false/\∃ vs,KV kvs vs/\h.DictOf (zdq P w) a vs :=
 show ObjOk P w H h a (.dK kvs)from zaap ok e
theorem zacj{kvs:List (Key × V)}(ok:HOk P w H h)(e:H a=some (.dK kvs)):kvs.length<=sizeLine/\(a == sysModules)=false/\∃ vs,KV kvs vs/\h.DictOf (zdq P w) a vs:=ztk ok (.inl e)
theorem zqi{ks:List Key}(ok:HOk P w H h)(e:H a=some (.tup (ks.map kV))):(tupleKind (zdq P w)).is h ks a:=by
 obtain⟨_,its,r,o,h1,h2,n,h3⟩:=(show ObjOk P w H h a (.tup (ks.map kV))from ok a _ e)
 exact⟨o,its.toArray,n,h1,h2,h3,by simpa using zqh r⟩
theorem ztl {kvs:List (List Key × V)} (ok:HOk P w H h) (e:Rd H a (.dT kvs)):kvs.length<=sizeLine/\(a == sysModules)=false ∧
    ∃ xs,KT H kvs xs/\h.DictOfH (tupleKind (zdq P w)) a xs:=by
  obtain⟨z,y,xs,r,o,es,ep,h1,h2,h3,h4,h5⟩:=(show ObjOk P w H h a (.dT kvs)from zaap ok e)
  refine⟨z,y,xs,r,o,es,ep,h1,h2,h3,h4,λx hx=> ?_,h5⟩
  have all:∀ {l:List (List Key × V)} {m:List (List Key × Addr × Value)},KT H l m->∀ x∈m,(tupleKind (zdq P w)).is h x.1 x.2.1:=by
    intro l m q
    induction q with
    | nil=>intro x hx;exact nomatch hx
    | @cons p q ps qs hq t ih =>
      intro x hx
      rcases List.mem_cons.mp hx with e | hx
      · subst e
        exact zqi ok (by rw[<-hq.1];exact hq.2.1)
      ·exact ih x hx
  exact all r x hx
theorem zack{kvs:List (List Key × V)}(ok:HOk P w H h)(e:H a=some (.dT kvs)):kvs.length<=sizeLine/\(a == sysModules)=false ∧
  ∃ xs,KT H kvs xs/\h.DictOfH (tupleKind (zdq P w)) a xs:=ztl ok (.inl e)
end
def DGet(H:Hp)(a:Addr)(y:V)(r:Option V):Prop :=
 (∃ kvs k,Rd H a (.dK kvs)/\y=kV k/\r=valV kvs k)\/∃ kvs k b,Rd H a (.dT kvs)/\y=.ref b/\H b=some (.tup (k.map kV))/\r=valV kvs k
def DPut(H:Hp)(a:Addr)(y v:V)(H':Hp):Prop :=
 (∃ kvs k,H a=some (.dK kvs)/\y=kV k/\kvs.length<sizeLine/\H'=upd H a (.dK (putK kvs k v))) ∨
 ∃ kvs k b,H a=some (.dT kvs)/\y=.ref b/\H b=some (.tup (k.map kV))/\kvs.length<sizeLine/\H'=upd H a (.dT (putK kvs k v))
theorem DGet.k{H:Hp}{a:Addr}{kvs:List (Key × V)}{k:Key}(e:H a=some (.dK kvs)):DGet H a (kV k) (valV kvs k):=.inl ⟨kvs,k,.inl e,rfl,rfl⟩
theorem DGet.t{H:Hp}{a b:Addr}{kvs:List (List Key × V)}{k:List Key}(e:H a=some (.dT kvs))(eb:H b=some (.tup (k.map kV))):DGet H a (.ref b) (valV kvs k):=.inr ⟨kvs,k,b,.inl e,rfl,eb,rfl⟩
theorem DPut.k{H:Hp}{a:Addr}{kvs:List (Key × V)}{k:Key}{v:V}(e:H a=some (.dK kvs))(hl:kvs.length<sizeLine):DPut H a (kV k) v (upd H a (.dK (putK kvs k v))):=.inl ⟨kvs,k,e,rfl,hl,rfl⟩
theorem DPut.t{H:Hp}{a b:Addr}{kvs:List (List Key × V)}{k:List Key}{v:V}(e:H a=some (.dT kvs))(eb:H b=some (.tup (k.map kV)))(hl:kvs.length<sizeLine) :
  DPut H a (.ref b) v (upd H a (.dT (putK kvs k v))):=.inr ⟨kvs,k,b,e,rfl,eb,hl,rfl⟩
section
variable{X:Cx}{pins:List (Addr × Obj)}{σ:St}{H:Hp}{s:Shared}{a:Addr}{y v:V}{u r:Value}{o:Option V}{A:Around}{E:Value->Shared->Prop}
theorem Inv.big(I:Inv X pins σ H s):sysModules<s.heap.objs.size:=by
 have h:mainGlobals<s.heap.objs.size:=(I.mod.glob.keeps I.bk).lt
 exact Nat.lt_trans (by decide) h
theorem zup{Q:Value->Shared->Prop}(hu:A.units+1<cLine)(I:Inv X pins σ H s)(g:DGet H a y (some v))(ry:RelV y u)(h:∀ w' s',Inv X pins σ H s'->RelV v w'->Q w' s') :
  wpAny (model X.prog X.w) A (getItem (.ref a) u) Q E s:=by
 rcases g with⟨kvs,k,e,ey,l⟩ | ⟨kvs,k,b,e,ey,eb,l⟩
 ·subst ey
  obtain⟨z,hd,vs,rel,dd⟩:=ztk I.hok e
  obtain⟨w',hw,rw'⟩:=RelO.some_of (v:=v) (o:=valueAt vs k) (by rw[l];exact rel.val k)
  exact wpAny_getItem_of (zuo ry) dd.mapOf hw (h w' _ (I.tok _) rw')
 ·subst ey
  cases (show u=Value.ref b from ry)
  obtain⟨z,hd,xs,rel,dd⟩:=ztl I.hok e
  obtain⟨w',hw,rw'⟩:=RelO.some_of (v:=v) (o:=(atKey xs k).map (·.2)) (by rw[l];exact rel.val k)
  obtain⟨p,hp,hp2⟩:=Option.map_eq_some_iff.mp hw
  refine wpAny_getItem_heap (tupleKind_room_in1 hu) (zqi I.hok eb) dd hp ?_
  rw[hp2]
  exact h w' _ (I.tok _) rw'
theorem d_in{Q:Value->Shared->Prop}(hu:A.units+1<cLine)(I:Inv X pins σ H s)(g:DGet H a y o)(ry:RelV y u)(h:∀ s',Inv X pins σ H s'->Q (.bool o.isSome) s') :
  wpAny (model X.prog X.w) A (compareOp .In u (.ref a)) Q E s:=by
 rcases g with⟨kvs,k,e,ey,l⟩ | ⟨kvs,k,b,e,ey,eb,l⟩
 ·subst ey
  obtain⟨z,hd,vs,rel,dd⟩:=ztk I.hok e
  refine wpAny_in_of (zuo ry) hd dd.mapOf ?_
  rw[<-(rel.val k).isSome_eq,<-l]
  exact h _ (I.tok _)
 ·subst ey
  cases (show u=Value.ref b from ry)
  obtain⟨z,hd,xs,rel,dd⟩:=ztl I.hok e
  refine wpAny_in_heap (tupleKind_room_in1 hu) (zqi I.hok eb) hd dd ?_
  have q:=(rel.val k).isSome_eq
  rw[Option.isSome_map]at q
  rw[<-q,<-l]
  exact h _ (I.tok _)
theorem zuq{h':Heap}{t':Nat}{ob:HO}(I:Inv X pins σ H s)(mu:Mut (H a))(hs:Heap.SameBut a s.heap h')(he:∃ q,h'.get? a=some q)(new:ObjOk X.prog X.w (upd H a ob) h' a ob) :
  Inv X pins σ (upd H a ob) { s with heap:=h',toks:=t' } :=
 I.write (x:=a) (e:=a) mu (.inl rfl) (λb q hb z=>(hs.2 b hb).trans z) he new
theorem zaaq{P:Program}{w:World}{H':Hp}{h':Heap}{kvs:List (Key × V)}{vs:List (Key × Value)}(z:kvs.length<=sizeLine)(hd:(a == sysModules)=false)(rel:KV kvs vs)(dd:h'.DictOf (zdq P w) a vs) :
  ObjOk P w H' h' a (.dK kvs):=⟨z,hd,vs,rel,dd⟩
theorem zur{H':Hp}{Q:Unit->Shared->Prop}(hu:A.units+1<cLine)(I:Inv X pins σ H s)(g:DPut H a y v H')(ry:RelV y u)(rv:RelV v r)(h:∀ s',Inv X pins σ H' s'->Q () s') :
  wpAny (model X.prog X.w) A (setItem (.ref a) u r) Q E s:=by
 rcases g with⟨kvs,k,e,ey,l,eH⟩ | ⟨kvs,k,b,e,ey,eb,l,eH⟩
 ·subst ey eH
  obtain⟨z,hd,vs,rel,dd⟩:=zacj I.hok e
  have hz:vs.length<=sizeLine:=by rw[<-rel.length];exact z
  have hl:(putK kvs k v).length<=sizeLine:=by have:=zh8 kvs k v;omega
  refine wpAny_setItem_pairs (hsz:=hz) (zuo ry) dd λh' dd' hs=>h _ ?_
  have he:∃ q,h'.get? a=some q:=let ⟨q,_,_,hq,_⟩:=dd';⟨q,hq⟩
  exact zuq I (by rw[e];exact True.intro) hs he (zaaq hl hd (rel.put k rv) dd')
 ·subst ey eH
  cases (show u=Value.ref b from ry)
  obtain⟨z,hd,xs,rel,dd⟩:=zack I.hok e
  have hz:xs.length<=sizeLine:=by rw[<-Paired.length rel];exact z
  have hl:(putK kvs k v).length<=sizeLine:=by have:=zh8 kvs k v;omega
  refine wpAny_setItem_heap (hsz:=hz) (tupleKind_room_in1 hu) (zqi I.hok eb) dd λh' dd' hs=>h _ ?_
  obtain⟨q,es,ep,hq,h2,h3,h4,_,h5⟩:=dd'
  refine zuq I (by rw[e];exact True.intro) hs ⟨q,hq⟩ ⟨hl,hd,_,(rel.put k eb rv).keeps λc ys ec=> ?_,q,es,ep,hq,h2,h3,h4,h5⟩
  rw[zah (ze6 ec e (λz=>nomatch z))]
  exact ec
end
section
variable{X:Cx}{pins:List (Addr × Obj)}{σ:St}{H:Hp}{s:Shared}{a:Addr}{kvs:List (Key × V)}{k:Key}{u:Value}{A:Around}{E:Value->Shared->Prop}
end
def NoSl(i:Expr):Prop:=∀ ov iv,subscripted i false ov iv=operate [ov,iv] (getItem ov iv)
theorem zyf{prog:Program}{w:World}{A:Around}{E:Value->Shared->Prop}{s:Shared}{env:Env}{value slice:Expr}{pos:Pos}{T id:String}{Q:Value->Shared->Prop}
  (hl:typeLookup (.type T) "__getitem__"=pure (some (.builtin id))) (hs:NoSl slice)
  (h:wpAny (model prog w) A (eval value env) (λo s₁=>wpAny (model prog w) A (eval slice env) (λi s₂=>s₂.TypeIs o T/\wpAny (model prog w) A (getItem o i) Q E s₂) E s₁) E s) :
  wpAny (model prog w) A (eval (.Subscript value slice pos) env) Q E s:=by
 refine Subscript_ (wpAny_mono h (λo s₁ h₁=>wpAny_mono h₁ (λi s₂ h₂=> ?_) λ_ _ x=>x) λ_ _ x=>x)
 obtain⟨hT,h₂⟩:=h₂
 unfold subscriptTail
 refine wpAny_bind ?_
 rw[getitemInPython_of_ne hT.not_modules]
 refine wpAny_bind (wpAny_specialOf hT hl ?_)
 have fin:wpAny (model prog w) A (subscripted slice false o i) (λr s₃=>wpAny (model prog w) A (letTemporaryGo value o r >>= λ_=>pure r) Q E s₃) E s₂:=by
  rw[hs o i]
  exact wpAny_operating (wpAny_mono h₂ (λr s₃ h₃=>wpAny_bind (wpAny_letTemporaryGo (wpAny_pure h₃))) λ_ _ x=>x)
 first
  | exact wpAny_pure (wpAny_bind fin)
  | exact wpAny_bind (wpAny_pure (wpAny_bind fin))
  | exact wpAny_bind fin
theorem zrv{X:Cx}{pins:List (Addr × Obj)}{σ:St}{H:Hp}{s:Shared}{a:Addr}{y:V}{o:Option V}(I:Inv X pins σ H s)(g:DGet H a y o):s.TypeIs (.ref a) "dict":=by
 rcases g with⟨kvs,k,e,_,_⟩ | ⟨kvs,k,b,e,_,_,_⟩
 ·obtain⟨_,_,vs,_,dd⟩:=ztk I.hok e
  exact dd.typeIs
 ·obtain⟨_,_,xs,_,dd⟩:=ztl I.hok e
  exact dd.typeIs
def zyg(td ty:TE):TE:=λσ H Q=>td σ H λx H1=>ty σ H1 λy H2=>∃ a v,x=.ref a/\DGet H2 a y (some v)/\Q v H2
def tDIn(ty td:TE):TE:=λσ H Q=>ty σ H λy H1=>td σ H1 λx H2=>∃ a o,x=.ref a/\DGet H2 a y o/\Q (.bl o.isSome) H2
def zyh(ty td:TE):TE:=λσ H Q=>ty σ H λy H1=>td σ H1 λx H2=>∃ a o,x=.ref a/\DGet H2 a y o/\Q (.bl (!o.isSome)) H2
def zyi(td ty tv:TE):TS:=λD σ H=>tv σ H λv H1=>td σ H1 λx H2=>ty σ H2 λy H3=>∃ a H4,x=.ref a/\DPut H3 a y v H4/\D.nx σ H4
section
variable{X:Cx}{o i e value:Expr}{pos pos' tpos:Pos}{td ty tv:TE}
theorem zyj(hu:X.A.units+1<cLine)(ho:PE X o td)(hi:PE X i ty)(hs:NoSl i):PE X (.Subscript o i pos) (zyg td ty):=by
 intro pins s σ H Q I h
 refine zyf PySem.F.slot_dict_getitem.lookup hs (thn (ho pins s σ H _ I h) λu s1 ⟨x,H1,I1,rx,q1⟩=>thn (hi pins s1 σ H1 _ I1 q1) λiv s2 ⟨y,H2,I2,ry,a,v,ex,g,q2⟩=> ?_)
 subst ex
 obtain rfl:u=Value.ref a:=rx
 exact⟨zrv I2 g,zup hu I2 g ry λw' s3 I3 rw'=>⟨v,H2,I3,rw',q2⟩⟩
theorem zaar(hu:X.A.units+1<cLine)(hi:PE X i ty)(ho:PE X o td):PC X .In i o (tDIn ty td):=by
 intro pins s σ H Q I h
 refine thn (hi pins s σ H _ I h) λiv s1 ⟨y,H1,I1,ry,q1⟩=>thn (ho pins s1 σ H1 _ I1 q1) λu s2 ⟨x,H2,I2,rx,a,ov,ex,g,q2⟩=> ?_
 subst ex
 obtain rfl:u=Value.ref a:=rx
 exact d_in hu I2 g ry λs3 I3=>⟨.bl ov.isSome,H2,I3,rfl,q2⟩
theorem zyk(hu:X.A.units+1<cLine)(ho:PE X o td)(hi:PE X i ty)(hv:PE X value tv)(hs:swapsWith value (some (.Subscript o i pos')) pos.line X.env=pure false) :
  PS X (.Assign [.Subscript o i pos'] value pos) (zyi td ty tv):=by
 intro pins s σ H D I h
 refine wpAny_Assign_Subscript (thn (hv pins s σ H _ I h) λr s1 ⟨v,H1,I1,rv,q1⟩=>thn (ho pins s1 σ H1 _ I1 q1) λu s2 ⟨x,H2,I2,rx,q2⟩=>thn (hi pins s2 σ H2 _ I2 q2) λiv s3 ⟨y,H3,I3,ry,a,H4,ex,g,q3⟩=> ?_) hs
 subst ex
 obtain rfl:u=Value.ref a:=rx
 exact zur hu I3 g ry rv λs4 I4=>⟨σ,H4,I4,q3⟩
end
theorem zwd{P:Program}{w:World}{H:Hp}(h:Heap)(hb:sysModules<h.objs.size):ObjOk P w H (h.push { cls:=.type "dict",data:=.dict #[] }) h.objs.size (.dK []) :=
 ⟨Nat.zero_le _,beq_eq_false_iff_ne.mpr (Ne.symm (Nat.ne_of_lt hb)),[],.nil,Heap.DictOf.new h⟩
theorem zwe{P:Program}{w:World}{H:Hp}(h:Heap)(hb:sysModules<h.objs.size):ObjOk P w H (h.push { cls:=.type "dict",data:=.dict #[] }) h.objs.size (.dT []) :=
 ⟨Nat.zero_le _,beq_eq_false_iff_ne.mpr (Ne.symm (Nat.ne_of_lt hb)),[],.nil,_,#[],0,Heap.get?_push_size _ rfl,⟨rfl,rfl,rfl⟩,rfl,rfl,List.nodup_nil⟩
def zsu:TE:=λ_ H Q=>∀ p,H p=none->Q (.ref p) (upd H p (.dK []))
def zus:TE:=λ_ H Q=>∀ p,H p=none->Q (.ref p) (upd H p (.dT []))
section
variable{X:Cx}{pos:Pos}
theorem zsv:PE X (.Dict [] [] pos) zsu:=λpins s σ H Q I h =>
 wpAny_Dict_empty ⟨.ref s.heap.objs.size,_,I.laid (a:=s.heap.objs.size) (o:=.dK []) (t':=s.toks) (λ_ _ q=>Heap.get?_push_of_some _ q) (Nat.le_refl _) (zwd s.heap I.big),rfl,h _ (I.hok.fresh (Nat.le_refl _))⟩
theorem zwf:PE X (.Dict [] [] pos) zus:=λpins s σ H Q I h =>
 wpAny_Dict_empty ⟨.ref s.heap.objs.size,_,I.laid (a:=s.heap.objs.size) (o:=.dT []) (t':=s.toks) (λ_ _ q=>Heap.get?_push_of_some _ q) (Nat.le_refl _) (zwe s.heap I.big),rfl,h _ (I.hok.fresh (Nat.le_refl _))⟩
end
structure M1(X:Cx)(o:Expr)(m:Str)(apos:Pos)(e:Expr)(cpos:Pos):Prop where
 base:attributeBase o m X.env (eval o X.env)=eval o X.env
 few:((backTo cpos (starEach [e] X.env)).all (λx=> !x.1) && (backToKw cpos (keywordEach [] X.env)).all (λx=>x.1.isSome)
  && decide (([e]:List Expr).length+([]:List Keyword).length+(if([]:List Keyword).isEmpty then 0 else 1)<30))=true
 line:(apos.endLine == cpos.line)=true
 trees:backTo cpos (starEach [e] X.env)=[(false,eval e X.env)]
structure M2(X:Cx)(o:Expr)(m:Str)(apos:Pos)(e f:Expr)(cpos:Pos):Prop where
 base:attributeBase o m X.env (eval o X.env)=eval o X.env
 few:((backTo cpos (starEach [e,f] X.env)).all (λx=> !x.1) && (backToKw cpos (keywordEach [] X.env)).all (λx=>x.1.isSome)
  && decide (([e,f]:List Expr).length+([]:List Keyword).length+(if([]:List Keyword).isEmpty then 0 else 1)<30))=true
 line:(apos.endLine == cpos.line)=true
 trees:backTo cpos (starEach [e,f] X.env)=[(false,eval e X.env),(false,eval f X.env)]
def IsD(H:Hp)(a:Addr):Prop:=(∃ kvs,Rd H a (.dK kvs))\/∃ kvs,Rd H a (.dT kvs)
theorem zaas{X:Cx}{pins:List (Addr × Obj)}{σ:St}{H:Hp}{s:Shared}{a:Addr}(I:Inv X pins σ H s)(d:IsD H a) :
  s.TypeIs (.ref a) "dict"/\(∀ b,Value.ref a=.ref b->∃ ob,s.heap.get? b=some ob/\ob.dict=none)/\(a == sysModules)=false:=by
 rcases d with⟨kvs,e⟩ | ⟨kvs,e⟩
 ·obtain⟨_,hd,vs,_,dd⟩:=ztk I.hok e
  refine⟨dd.typeIs,λb q=> ?_,hd⟩
  cases q
  obtain⟨ob,_,_,h1,h2,_⟩:=dd
  exact⟨ob,h1,h2.2.1⟩
 ·obtain⟨_,hd,xs,_,dd⟩:=ztl I.hok e
  refine⟨dd.typeIs,λb q=> ?_,hd⟩
  cases q
  obtain⟨ob,_,_,h1,h2,_⟩:=dd
  exact⟨ob,h1,h2.2.1⟩
section
variable{X:Cx}{pins:List (Addr × Obj)}{σ:St}{H:Hp}{s:Shared}{a:Addr}{y d:V}{u r:Value}{o:Option V}{A:Around}{E:Value->Shared->Prop}
theorem zaat{Q:Value->Shared->Prop}(hu:A.units+1<cLine)(I:Inv X pins σ H s)(g:DGet H a y o)(ry:RelV y u)(h:∀ w' s',Inv X pins σ H s'->RelV (o.getD .non) w'->Q w' s') :
  wpAny (model X.prog X.w) A (call (.builtin "dict.get") [.ref a,u]) Q E s:=by
 rcases g with⟨kvs,k,e,ey,l⟩ | ⟨kvs,k,b,e,ey,eb,l⟩
 ·subst ey
  obtain⟨z,hd,vs,rel,dd⟩:=ztk I.hok e
  refine call_meetsIn PySem.F.slot_dict_get dd.typeIs PySem.F.entry_dict_get (PySem.F.args_dict_get_2 _ _) (meets_dict_get (zdq X.prog X.w) a (zuo ry) hd) ⟨_,dd.mapOf,h _ _ (I.tok _) ?_⟩
  rw[l]
  exact(rel.val k).getD rfl
 ·subst ey
  cases (show u=Value.ref b from ry)
  obtain⟨z,hd,xs,rel,dd⟩:=ztl I.hok e
  refine call_meetsIn PySem.F.slot_dict_get dd.typeIs PySem.F.entry_dict_get (PySem.F.args_dict_get_2 _ _) (meetsH_dict_get (tupleKind (zdq X.prog X.w)) a b hd) ⟨tupleKind_room_in1 hu,k,xs,zqi I.hok eb,dd,h _ _ (I.tok _) ?_⟩
  rw[l]
  exact(rel.val k).getD rfl
end
def zut(td ty:TE):TE:=λσ H Q=>td σ H λx H1=>∃ a,x=.ref a/\IsD H1 a/\ty σ H1 λy H2=>∃ o,DGet H2 a y o/\Q (o.getD .non) H2
section
variable{X:Cx}{o e f:Expr}{apos cpos:Pos}{td ty tx:TE}
theorem zwg(hu:X.A.units+1<cLine)(ho:PE X o td)(he:PE X e ty)(m:M1 X o "get" apos e cpos):PE X (.Call (.Attribute o "get" apos) [e] [] cpos) (zut td ty):=by
 intro pins s σ H Q I h
 refine wpAny_Call_method m.base m.few m.line PySem.F.plainAttrs_dict PySem.F.slot_dict_get PySem.F.type_dict_get (thn (ho pins s σ H _ I h) λu s1 ⟨x,H1,I1,rx,a,ex,d,q1⟩=> ?_)
 subst ex
 obtain rfl:u=Value.ref a:=rx
 obtain⟨t1,t2,_⟩:=zaas I1 d
 refine⟨t1,t2,?_⟩
 rw[m.trees]
 refine Calls.callWith_builtin rfl (Calls.evalArgs_plain (Calls.spliced_cons (thn (he pins s1 σ H1 _ I1 q1) λiv s2 ⟨y,H2,I2,ry,ov,g,q2⟩=>Calls.spliced_nil ?_)))
 exact zaat hu I2 g ry λw' s3 I3 rw'=>⟨_,H2,I3,rw',q2⟩
end
section
variable{X:Cx}{pins:List (Addr × Obj)}{σ:St}{H:Hp}{s:Shared}{a:Addr}{kvs:List (Key × V)}{A:Around}{E:Value->Shared->Prop}
end
section
variable{X:Cx}{pins:List (Addr × Obj)}{σ:St}{H:Hp}{s:Shared}{a:Addr}{y:V}{u:Value}{A:Around}{E:Value->Shared->Prop}
end
end L2
namespace Att
open PySem PySem.W PySem.Calls PyProof.Rows
theorem zmk{P:Params}{h:Heap}:∀ (ns:List Int) (vs:List Value),WellAll P h vs (ns.map WData.int)->IntsAre vs ns:=by
  intro ns
  induction ns with
  | nil =>
    intro vs w
    rw[List.map_nil]at w
    cases w
    exact .nil
  | cons n ns ih =>
    intro vs w
    rw[List.map_cons]at w
    cases w with
    | cons a b =>
      cases a
      exact .cons _ _ (ih _ b)
theorem zuu{l:OpenLaw}{n:Nat}(hn:l.most=some n){P:Params}{h:Heap}{args:List WData}{vals:List Value}
    (hpre:l.row.toRowW.claim.pre args=true) (hwl:WellAll P h vals args) :
    ∃ a vs ns,vals=[Value.ref a]/\args=[WData.list (ns.map WData.int)]/\h.get? a=some { cls:=.type "list",data:=.seq vs.toArray }/\IntsAre vs ns/\ns.length<=n:=by
  have hsh:WShape.hasAll [] args [.list .int]=true:=(pre_splitW hpre).1
  have hc:l.pre.holds [] { args:=args }=true:=(pre_splitW hpre).2
  obtain⟨d,r,rfl,h1,h2⟩:=hasAllW_cons hsh
  obtain rfl:=hasAllW_nil h2
  obtain⟨xs,rfl,h3⟩:=hasW_list h1
  obtain⟨ns,rfl⟩:=items_int h3
  have hlen:ns.length<=n:=by
    unfold OpenLaw.pre at hc
    have h4:(WTm.not (.lt (.lit (.int (n:Int))) (.len (.arg 0)))).holds [] { args:=[.list (ns.map .int)] }=true:=by
      have h4:=(holds_andW hc).1
      rw[hn]at h4
      exact h4
    have h5:=condW_of h4 (w_not (w_lt w_lit (w_len_list (w_arg rfl))))
    rw[List.length_map]at h5
    refine Nat.le_of_not_lt λq=> ?_
    have q':(n:Int)<((ns.length:Nat):Int):=by omega
    first
      | (rw[decide_eq_true q']at h5;exact absurd h5 (by decide))
      | (simp at h5;omega)
  cases hwl with
  | cons w1 w2 =>
    cases w2
    cases w1 with
    | list ho hall=>exact⟨_,_,ns,rfl,rfl,ho,zmk ns _ hall,hlen⟩
theorem zuv(l:OpenLaw)(args:List WData):l.row.toRowW.claim.post args (.bool true) args=true :=
 postW_of (r:=l.row.toRowW) (X:=(true == true))
  (show WShape.has [] (.bool true) .bool=true by first | rfl | decide | simp[WShape.has,WShape.arms,WShape.armsAll])
  (show(WTm.eq .res (.lit (.bool true))).value [] { args:=args,res:=some (.bool true),after:=args }=some (.bool (true == true))from w_eq_bool (w_res rfl) w_lit) rfl
theorem attach_call{l:OpenLaw}{n:Nat}{q:Program}{loose:List Str}{XP:(Str->Option Value)->Heap->Prop}{YP:World->Heap->Prop}{d:DefRec}
  (hn:l.most=some n) (hdf:d.params.defaults=[])
  (call:∀ (w:World) (s₀ s₁:Shared) (mg mb:Str->Option Value) (fa:Addr) (o:Obj) (pm cd doc:Value) (a:Addr) (vs:List Value) (ns:List Int),
   Ground q loose [] XP w s₀ mg mb s₁.heap->YP w s₁.heap →
   s₁.heap.get? fa=some o->o.data=.func (docDef d.name d.params d.body d.scope pm cd doc)->s₁.heap.CodeRec cd d.name->mg d.name=some (.ref fa) →
   s₁.heap.get? a=some { cls:=.type "list",data:=.seq vs.toArray }->IntsAre vs ns->ns.length<=n->s₁.gens= #[] →
   codeAny (model l.prog w) callerA (.call (.ref fa) ⟨[.ref a],[]⟩) (λr s'=>r=.ok (.ret (.bool true))/\OldK s₁.heap s'.heap/\s'.os=s₁.os/\AllBare s'.gens) s₁) :
  WalkO q loose XP YP l.row.toRowW d [] (λf vs=>PySem.call f vs):=by
 intro w s₀ s₁ mg mb G Y fa o pm cd doc dV kV ho hd hcd hD hmg hg args vals as hpre hlay hrd hwl hlo
 obtain rfl:dV=.none:=Dflts.none hD hdf
 obtain rfl:kV=.none:=Dflts.noKw hD
 obtain⟨a,vs,ns,rfl,rfl,hobj,hints,hlen⟩:=zuu hn hpre hwl
 refine enter_call (codeAny_mono (call w s₀ s₁ mg mb fa o pm cd doc a vs ns G Y ho (fd_plain hd) hcd hmg hobj hints hlen hg) λr s' hq=> ?_)
 obtain⟨rfl,h2,h3,h4⟩:=hq
 exact⟨.inl ⟨.bool true,.bool true,[],rfl,λ_=>rfl,.bool true,zuv l _,λ_=>⟨List.Pairwise.nil,λ_ hm=>(nomatch hm)⟩⟩,h2,h3,h4⟩
section
variable{prog:Program}{w:World}{A:Around}{E:Value->Shared->Prop}{s:Shared}{K:Frag}
def zada(h:Heap)(L d:Addr):List (Addr × Obj):=(List.range h.objs.size).filterMap λa=>if a=L\/a=d then none else(h.get? a).map λo=>(a,o)
end
end Att
namespace L2
open PySem PySem.Spec PyProof.Rows
theorem zml:∀ {vs:List Value} {ns:List Int},IntsAre vs ns->Vals (ns.map V.int) vs
 | _,_,.nil=>.nil
 | _,_,.cons n t h=>.cons ⟨t,rfl⟩ (zml h)
def Only(H:Hp):Prop:=∀ b,H b=none\/∃ o xs,H b=some (.frz o (.lst xs))
theorem zwh {P:Program} {w:World} {K:PySem.W.Frag} {mg mb:Str->Option Value} {CX:CXT} {k:Nat} {fa a:Addr} {fd:FuncData} {x:Str} {sp:Sp} {s₁:Shared} {vs:List Value} {ns:List Int}
    (KX:K.In s₁.heap) (hns:s₁.heap.Ns mainGlobals mg) (hb:s₁.heap.Ns builtinsNs mb) (hbb:∀ x:Str,x≠"__name__"->mb x=bootBuiltins x) (hlim:s₁.heap.NoLimit) (hg:s₁.gens= #[])
    (ha:s₁.heap.get? a=some { cls:=.type "list",data:=.seq vs.toArray }) (hi:IntsAre vs ns) (hl:ns.length<=sizeLine) (hr:Room k callerA)
    (F:∀ base:Heap,K.In base->base.Ns mainGlobals mg->FnOk P w K mg base CX k fa fd [x] sp) (hbind:∀ (s:Shared) (u:Value),BindsTo s fd ⟨[u],[]⟩ [(x,u)])
    (hsp:∀ H:Hp,Only H->SqL K H a (ns.map V.int)->sp [.ref a] H (λv _=>v=.bl true) λ_ _ _=>False)
    (hCX:∀ H e s',CX [] H s₁ (λ_ _ _=>False) e s'->False) :
    codeAny (model P w) callerA (.call (.ref fa) ⟨[.ref a],[]⟩) (λr s'=>r=.ok (.ret (.bool true))/\OldK s₁.heap s'.heap/\s'.os=s₁.os/\AllBare s'.gens) s₁:=by
  have rv:=zml hi
  have lenV:=hi.length
  have core : ∀ H:Hp,Only H->SqL K H a (ns.map V.int)->HOk P w H s₁.heap->(∀ b,H b≠none->b=a)->(H a≠none->K.lookup a=none) →
      codeAny (model P w) callerA (.call (.ref fa) ⟨[.ref a],[]⟩) (λr s'=>r=.ok (.ret (.bool true))/\OldK s₁.heap s'.heap/\s'.os=s₁.os/\AllBare s'.gens) s₁:=by
    intro H hO hS hok hA hK
    have base_of:∀ {b:Addr} {o:Obj},s₁.heap.get? b=some o->H b=none->(hidT s₁.heap H).get? b=some o:=λe n=>zvz e n
    have noA:∀ {b:Addr} {o:Obj} {es:Array DictEntry} {ep:Nat},s₁.heap.get? b=some o->o.data=.dict es ep->H b=none:=λ{b o es ep} e d=>by
      cases q:H b with
      | none=>rfl
      | some u =>
        have e':b=a:=hA b (by rw[q];simp)
        subst e'
        rw[ha]at e;cases e
        have d':Data.seq vs.toArray _=Data.dict es ep:=d
        cases d'
    have nsK:∀ {b:Addr} {m:Str->Option Value},s₁.heap.Ns b m->(hidT s₁.heap H).Ns b m:=λ{b m} ⟨o,es,ep,e,d,r⟩=>⟨o,es,ep,base_of e (noA e d),d,r⟩
    have hKb:K.In (hidT s₁.heap H):=λb o e=>base_of (KX b o e) (by
      cases q:H b with
      | none=>rfl
      | some u =>
        have e':b=a:=hA b (by rw[q];simp)
        subst e'
        rw[hK (by rw[q];simp)]at e;cases e)
    have hM:Mod K mg (hidT s₁.heap H):=⟨hKb,nsK hns,⟨mb,nsK hb,hbb⟩,let ⟨mc,h1,h2⟩:=hlim;⟨mc,nsK h1,h2⟩⟩
    have e0:Env0 P w K mg (hidT s₁.heap H) callerA [] s₁ H:=⟨rfl,hM,λb o e=>zxy e,Nat.le_of_eq (zt7 _ _),trivial,λb hb=>absurd (show b∈([]:List Addr)from hb) (by simp),hok,.of_eq hg⟩
    refine codeAny_mono ((F _ hKb (nsK hns)).run callerA [] s₁ H ⟨[.ref a],[]⟩ [.ref a] [.ref a] _ _ hr e0 (hbind s₁ (.ref a)) (.cons rfl .nil) (hsp H hO hS)) λr s' h=> ?_
    cases r with
    | error e=>exact(hCX H e s' h).elim
    | ok fl =>
      cases fl with
      | next=>exact False.elim h
      | brk=>exact False.elim h
      | cont=>exact False.elim h
      | ret u =>
        obtain⟨v,H',os,bare,un,hok',r',q⟩:=h
        have q':v=.bl true:=q
        subst q'
        obtain rfl:u=Value.bool true:=r'
        refine⟨rfl,OldK.of_keep λb o e=> ?_,os,bare⟩
        cases q:H b with
        | none=>exact un.keep b o e q (by intro z;exact absurd (show b∈([]:List Addr)from z) (by simp)) (by simp)
        | some u =>
          rcases hO b with z | ⟨ob,xs,z⟩
          ·rw[q]at z;cases z
          · have z2:=un.frzs b ob _ z
            obtain⟨e1,_⟩:=hok b _ z
            obtain⟨e2,_⟩:=hok' b _ z2
            rw[e]at e1;cases e1
            exact e2
  cases hk:K.lookup a with
  | some o =>
    have e:=KX a o hk
    rw[ha]at e
    cases e
    refine core (λ_=>none) (λ_=>.inl rfl) (.inr ⟨_,vs.toArray,_,hk,rfl,rfl,rfl,by rw[List.size_toArray,lenV];exact hl,by simpa using rv⟩) (λb u z=>by have z':(none:Option HO)=some u:=z;cases z') (λb z=>absurd rfl z) λz=>absurd rfl z
  | none =>
    refine core (λb=>if b=a then some (.frz { cls:=.type "list",data:=.seq vs.toArray } (.lst (ns.map V.int)))else none) (λb=> ?_) (.inl (.inr ⟨{ cls:=.type "list",data:=.seq vs.toArray },if_pos rfl⟩)) (λb u z=> ?_) (λb z=> ?_) λ_=>hk
    · by_cases hb:b=a
      ·exact .inr ⟨_,_,if_pos hb⟩
      ·exact .inl (if_neg hb)
    · by_cases hb:b=a
      · have z':=(if_pos hb).symm.trans z
        cases z'
        subst hb
        exact⟨ha,by rw[List.length_map];exact hl,vs,_,rv,ha⟩
      · have z':=(if_neg hb).symm.trans z
        cases z'
    · by_cases hb:b=a
      ·exact hb
      ·exact absurd (if_neg hb) z
end L2
namespace L2
open PySem PySem.Spec PyProof.Rows
abbrev KOf{K:PySem.W.Frag}{h:Heap}(_:K.In h):PySem.W.Frag:=K
theorem walk_of {l:PySem.W.OpenLaw} {n k:Nat} {q:Program} {loose:List Str} {XP:(Str->Option Value)->Heap->Prop} {YP:World->Heap->Prop} {d:DefRec} {K:Params->PySem.W.Frag} {CX:World->CXT} {sp:World->Sp} {x:Str}
    (hn:l.most=some n) (hn2:n<=sizeLine) (hdf:d.params.defaults=[]) (hr:Room k callerA)
    (hY:∀ (w:World) (h:Heap),YP w h->(K w.params).In h)
    (F:∀ (w:World) (mg:Str->Option Value) (fa:Addr) (h:Heap),(K w.params).In h->h.Ns mainGlobals mg->mg d.name=some (.ref fa) →
      ∃ fd:FuncData,(∀ (s:Shared) (u:Value),BindsTo s fd ⟨[u],[]⟩ [(x,u)]) ∧
        ∀ base:Heap,(K w.params).In base->base.Ns mainGlobals mg->FnOk l.prog w (K w.params) mg base (CX w) k fa fd [x] (sp w))
    (hsp:∀ (w:World) (H:Hp) (a:Addr) (ns:List Int),ns.length<=n->Only H->SqL (K w.params) H a (ns.map V.int)->sp w [.ref a] H (λv _=>v=.bl true) λ_ _ _=>False)
    (hCX:∀ (w:World) (H:Hp) (s:Shared) (e:Value) (s':Shared),CX w [] H s (λ_ _ _=>False) e s'->False) :
    PySem.W.WalkO q loose XP YP l.row.toRowW d [] (λf vs=>PySem.call f vs):=by
  refine Att.attach_call hn hdf λw s₀ s₁ mg mb fa o pm cd doc a vs ns G Y ho hd hcd hmg hobj hints hlen hg=> ?_
  have KX:=hY w _ Y
  obtain⟨fd,hb,hF⟩:=F w mg fa _ KX G.T.g hmg
  exact zwh KX G.T.g G.T.b G.T.builtins G.T.nolimit hg hobj hints (Nat.le_trans hlen hn2) hr hF hb (λH hO hS=>hsp w H a ns hlen hO hS) λH e s'=>hCX w H s₁ e s'
end L2
namespace L2
open PySem PySem.Spec PyProof.Rows
def zbh(s:Stmt)(j:Nat):Stmt:=match s with
 | .ClassDef _ _ _ body _ _ _ _ _ _ _=>body.getD j (.Pass ⟨0,0,0,0⟩)
 | _=>.Pass ⟨0,0,0,0⟩
def zaw(s:Stmt):Arguments:=match s with
 | .FunctionDef _ a _ _ _ _ _ _ _ _=>a
 | _=>{ posonlyargs:=[],args:=[],vararg:=none,kwonlyargs:=[],kw_defaults:=[],kwarg:=none,defaults:=[] }
def zas(s:Stmt):List Stmt:=match s with
 | .FunctionDef _ _ b _ _ _ _ _ _ _=>b
 | _=>[]
def zaa(s:Stmt):Scope:=match s with
 | .FunctionDef _ _ _ _ _ _ sc _ _ _=>sc
 | _=>{ kind:=.function,names:=[],isGenerator:=false,isCoroutine:=false }
abbrev CX0:CXT:=λ_ _ _ _ _ _=>False
abbrev E0:XK:=λ_ _ _=>False
structure Fun(K:PySem.W.Frag)(x qual:Str)(st:Stmt)(f:Addr)(fd:FuncData):Prop where
 ex:∃ (oc:Value) (od:Option Addr) (kV doc pm:Value) (an:Option Addr) (cdv ct:Value) (osl:Array (Option Value)),
  fd=PySem.W.fnOf x qual (zaw st) (zas st) (zaa st) .none kV doc pm an cdv ct/\K.lookup f=some ⟨oc,od,.func fd,osl⟩/\PySem.W.codeIn K cdv qual=true
 kp:PySem.W.keepIn K (.ref f)=true
section
variable{P:Program}{w:World}{K:PySem.W.Frag}{mg:Str->Option Value}{base:Heap}
theorem Fun.ok{x qual:Str}{st:Stmt}{f:Addr}{fd:FuncData}{N ps:List Str}{k:Nat}{sp:Sp}(F:Fun K x qual st f fd)(S:zav N ps (zaa st))(len:∀ vs H Q E,sp vs H Q E->vs.length=ps.length)
  (hbody:∀ (cdv:Value) (A:Around) (outer:List Env) (s:Shared) (H:Hp) (vs:List V) (Q:VK) (E:XK),Room k (A.deeper (envOfC qual (zaa st) s.heap.objs.size f cdv))->sp vs H Q E →
   ∃ t,PSs (cxOf CX0 P w K mg base N qual (zaa st) f cdv A outer s H E).nox (zas st) t/\t { nx:=λ_ H'=>Q .non H',rt:=Q } (zby N vs) H):FnOk P w K mg base CX0 (k+1) f fd ps sp:=by
 obtain⟨oc,od,kV,doc,pm,an,cdv,ct,osl,rfl,lk,hcd⟩:=F.ex
 refine zaah lk hcd S len λA outer s H vs Q E hr hsp=> ?_
 obtain⟨t,h,q⟩:=hbody cdv A outer s H vs Q E hr hsp
 exact⟨t,h.nox,q⟩
theorem Fun.binds{x qual:Str}{st:Stmt}{f:Addr}{fd:FuncData}{ps:List Str}(F:Fun K x qual st f fd)
  (h:∀ (kV doc pm:Value) (an:Option Addr) (cdv ct:Value) (us:List Value),us.length=ps.length->bindArgs (PySem.W.fnOf x qual (zaw st) (zas st) (zaa st) .none kV doc pm an cdv ct) ⟨us,[]⟩=pure (ps.zip us)):Binds K fd ps []:=by
 obtain⟨oc,od,kV,doc,pm,an,cdv,ct,osl,rfl,lk,hcd⟩:=F.ex
 exact .all (h kV doc pm an cdv ct)
theorem zbi{x qual:Str}{st:Stmt}{f:Addr}{oc:Value}{od an:Option Addr}{osl:Array (Option Value)}{kV doc pm cdv ct:Value}(l:K.lookup f=some ⟨oc,od,.func (PySem.W.fnOf x qual (zaw st) (zas st) (zaa st) .none kV doc pm an cdv ct),osl⟩)
  (c:PySem.W.codeIn K cdv qual=true) (k:PySem.W.keepIn K (.ref f)=true):Fun K x qual st f (PySem.W.fnOf x qual (zaw st) (zas st) (zaa st) .none kV doc pm an cdv ct):=⟨⟨oc,od,kV,doc,pm,an,cdv,ct,osl,rfl,l,c⟩,k⟩
end
theorem zwi{A:Around}{k:Nat}(hr:Room k A):A.units+1<cLine:=Nat.lt_of_le_of_lt (Nat.add_le_add_left (by decide:1<=64) _) hr.units
section
variable{X:Cx}
end
theorem iteT{A B:Prop}(h:A):if true=true then A else B:=by
 rw[if_pos rfl]
 exact h
def Same(H H':Hp):Prop:=∀ b o,H b=some o->H' b=some o
theorem Same.refl(H:Hp):Same H H:=λ_ _ h=>h
theorem Same.trans{H H1 H2:Hp}(a:Same H H1)(b:Same H1 H2):Same H H2:=λc o h=>b c o (a c o h)
theorem Same.free{H H':Hp}(e:Same H H'){l:Addr}(h:H' l=Option.none):H l=Option.none:=by
  cases q:H l with
  | none=>rfl
  | some o =>
    rw[e l o q]at h
    cases h
theorem Same.seq{K:PySem.W.Frag}{H H':Hp}{a:Addr}{xs:List V}(e:Same H H')(h:SqL K H a xs):SqL K H' a xs:=by
 rcases h with(h | ⟨o,h⟩) | h
 ·exact .inl (.inl (e _ _ h))
 ·exact .inl (.inr ⟨o,e _ _ h⟩)
 ·exact .inr h
section
variable{κ :Type}[DecidableEq κ]
theorem zwj{kvs:List (κ × V)}{k: κ}(h:valV kvs k=none):¬ k∈kvs.map (·.1):=by
 intro m
 obtain⟨p,hp,e⟩:=List.mem_map.mp m
 have q:(kvs.any λkv=>decide (kv.1=k))=true:=List.any_eq_true.mpr ⟨p,hp,decide_eq_true e⟩
 rw[zhk,h]at q
 exact absurd q (by simp)
theorem zuw:∀ {l:List κ} {k: κ},l.Nodup->¬ k∈l->(l++[k]).Nodup
  | [],k,_,_=>by simp
  | a::r,k,h,hk=>by
    obtain⟨h1,h2⟩:=List.nodup_cons.mp h
    show(a::(r++[k])).Nodup
    refine List.nodup_cons.mpr ⟨λm=> ?_,zuw h2 λm=>hk (List.mem_cons.mpr (Or.inr m))⟩
    rcases List.mem_append.mp m with q | q
    ·exact h1 q
    ·exact hk (List.mem_cons.mpr (Or.inl (List.mem_singleton.mp q).symm))
theorem zyl{kvs:List (κ × V)}{k: κ}(v:V)(hn:(kvs.map (·.1)).Nodup)(h:valV kvs k=none):((putK kvs k v).map (·.1)).Nodup:=by
 rw[zst v h,List.map_append]
 exact zuw hn (zwj h)
end
end L2
set_option linter.all false
set_option maxHeartbeats 4000000
namespace L2
open PySem PySem.Spec PyProof.Rows
theorem zkf {env:Env}:∀ (names:List (Str × NameKind)) (cs:List (Str × Addr)),
    (∀ x∈names,x.2=.free->∃ c,env.cells.lookup x.1=some c)->(∀ x c,cs.lookup x=some c->env.cells.lookup x=some c) →
    ∃ cl,(forIn names cs λx r=>(if(x.2 == NameKind.free)=true then do let a ← cellOf env x.1;pure (ForInStep.yield ((x.1,a)::r))else pure (ForInStep.yield r):Sem (ForInStep (List (Str × Addr)))))=pure cl ∧
      (∀ x c,cl.lookup x=some c->env.cells.lookup x=some c)/\(∀ x,(cs.lookup x).isSome=true->(cl.lookup x).isSome=true) ∧
      ∀ x∈names,x.2=.free->(cl.lookup x.1).isSome=true
  | [],cs,_,h=>⟨cs,rfl,h,λ_ z=>z,λ_ z=>nomatch z⟩
  | (n, k)::r,cs,hf,h=>by
    by_cases hk:k=.free
    · subst hk
      obtain⟨c,hc⟩:=hf (n,.free) List.mem_cons_self rfl
      obtain⟨cl,e,h1,h2,h3⟩:=zkf r ((n,c)::cs) (λx hx=>hf x (List.mem_cons_of_mem _ hx)) (λx c' hx=>by
        by_cases hxn:x=n
        ·subst hxn;simp only[List.lookup_cons,beq_self_eq_true]at hx;cases hx;exact hc
        · have:(x == n)=false:=beq_eq_false_iff_ne.mpr hxn
          simp only[List.lookup_cons,this]at hx;exact h x c' hx)
      refine⟨cl,?_,h1,λx hx=>h2 x ?_,λx hx hxf=> ?_⟩
      · rw[List.forIn_cons]
        show((if(NameKind.free == NameKind.free)=true then _ else _) >>= _)=_
        rw[if_pos (show(NameKind.free == NameKind.free)=true from rfl)]
        unfold cellOf
        show(((match env.cells.lookup n with | some a=>pure a | none=>_) >>= _) >>= _)=_
        rw[hc]
        exact e
      · by_cases hxn:x=n
        ·subst hxn;simp
        · have:(x == n)=false:=beq_eq_false_iff_ne.mpr hxn
          simp only[List.lookup_cons,this];exact hx
      · rcases List.mem_cons.mp hx with rfl | hx
        ·exact h2 n (by simp)
        ·exact h3 x hx hxf
    · obtain⟨cl,e,h1,h2,h3⟩:=zkf r cs (λx hx=>hf x (List.mem_cons_of_mem _ hx)) h
      refine⟨cl,?_,h1,h2,λx hx hxf=> ?_⟩
      · rw[List.forIn_cons]
        have hb:(k == NameKind.free)=false:=by simpa using hk
        show((if(k == NameKind.free)=true then _ else _) >>= _)=_
        rw[if_neg (by simp[hb])]
        exact e
      · rcases List.mem_cons.mp hx with rfl | hx
        ·exact absurd hxf hk
        ·exact h3 x hx hxf
theorem zmm{env:Env}{scope:Scope}(hf:∀ x∈scope.names,x.2=.free->∃ c,env.cells.lookup x.1=some c) :
  ∃ cl,closureFor scope env=pure cl/\(∀ x c,cl.lookup x=some c->env.cells.lookup x=some c)/\∀ x∈scope.names,x.2=.free->(cl.lookup x.1).isSome=true:=by
 obtain⟨cl,e,h1,_,h3⟩:=zkf (env:=env) scope.names [] hf (λx c h=>by simp at h)
 refine⟨cl,?_,h1,h3⟩
 unfold closureFor
 show(forIn scope.names ([]:List (Str × Addr)) _ >>= _)=_
 have:(forIn scope.names ([]:List (Str × Addr)) λx r=>(if(x.2 == NameKind.free)=true then do let a ← cellOf env x.1;pure (ForInStep.yield ((x.1,a)::r))else pure (ForInStep.yield r):Sem (ForInStep (List (Str × Addr))))) >>=(λr=>(pure r:Sem _))=(pure cl:Sem _):=by rw[e];rfl
 exact this
theorem zk5{env:Env}:∀ {names:List (Str × NameKind)} {x:Str},names.lookup x=some .free →
    (names.map λ(n,k)=>if(k == NameKind.free && env.scope.kind == .function && env.kindOf n == some .cell)then(n,NameKind.cell)else(n,k)).lookup x=some .cell ∨
    (names.map λ(n,k)=>if(k == NameKind.free && env.scope.kind == .function && env.kindOf n == some .cell)then(n,NameKind.cell)else(n,k)).lookup x=some .free
  | [],_,h=>by simp at h
  | (n,k)::r,x,h=>by
    by_cases hx:x=n
    · subst hx
      simp only[List.lookup_cons,beq_self_eq_true]at h
      cases h
      show List.lookup x ((if _ then(x,NameKind.cell)else(x,NameKind.free))::_)=_\/List.lookup x ((if _ then(x,NameKind.cell)else(x,NameKind.free))::_)=_
      split
      ·exact .inl (by simp)
      ·exact .inr (by simp)
    · have hb:(x == n)=false:=beq_eq_false_iff_ne.mpr hx
      simp only[List.lookup_cons,hb]at h
      have ih:=zk5 (env:=env) h
      show List.lookup x ((if _ then(n,NameKind.cell)else(n,k))::_)=_\/List.lookup x ((if _ then(n,NameKind.cell)else(n,k))::_)=_
      split<;>(simp only[List.lookup_cons,hb];exact ih)
theorem zk6 {env:Env}:∀ {names:List (Str × NameKind)} {x:Str},
    ((names.map λ(n,k)=>if(k == NameKind.free && env.scope.kind == .function && env.kindOf n == some .cell)then(n,NameKind.cell)else(n,k)).lookup x=some .cell ∨
    (names.map λ(n,k)=>if(k == NameKind.free && env.scope.kind == .function && env.kindOf n == some .cell)then(n,NameKind.cell)else(n,k)).lookup x=some .free)->(x,NameKind.free)∈names\/(x,NameKind.cell)∈names
  | [],_,h=>by simp at h
  | (n, k)::r,x,h=>by
    by_cases hx:x=n
    · subst hx
      have h:List.lookup x ((if(k == NameKind.free && env.scope.kind == .function && env.kindOf x == some .cell)=true then(x,NameKind.cell)else(x,k))::_)=some .cell\/List.lookup x ((if(k == NameKind.free && env.scope.kind == .function && env.kindOf x == some .cell)=true then(x,NameKind.cell)else(x,k))::_)=some .free:=h
      split at h
      · rename_i hc
        rw[Bool.and_eq_true,Bool.and_eq_true]at hc
        have:k=.free:=by simpa using hc.1.1
        subst this
        exact .inl List.mem_cons_self
      · simp only[List.lookup_cons,beq_self_eq_true]at h
        rcases h with h | h
        ·cases h;exact .inr List.mem_cons_self
        ·cases h;exact .inl List.mem_cons_self
    · have hb:(x == n)=false:=beq_eq_false_iff_ne.mpr hx
      have h:List.lookup x ((if(k == NameKind.free && env.scope.kind == .function && env.kindOf n == some .cell)=true then(n,NameKind.cell)else(n,k))::_)=some .cell\/List.lookup x ((if(k == NameKind.free && env.scope.kind == .function && env.kindOf n == some .cell)=true then(n,NameKind.cell)else(n,k))::_)=some .free:=h
      have h':=h
      split at h'
      all_goals
        simp only[List.lookup_cons,hb]at h'
        exact(zk6 h').imp (List.mem_cons_of_mem _) (List.mem_cons_of_mem _)
theorem zg2{a b:Addr}{n:Nat}(h:a<n)(h2:n<=b):a≠b:=Nat.ne_of_lt (Nat.lt_of_lt_of_le h h2)
def Cx.block(X:Cx)(pins:List (Addr × Obj))(s:Shared)(H:Hp)(Nc:List Str)(scope:Scope)(cl:List (Str × Addr))(C:Addr)(fp:List Addr):Cx where
 prog:=X.prog
 w:=X.w
 K:=X.K
 mg:=X.mg
 base:=X.base
 A:=X.A
 N:=Nc
 s₀:=s
 H₀:=H
 env:=compEnvC scope cl C X.env
 outer:=X.stack
 stack:=X.stack
 ex:=fp
 fn:=λ_=>false
 calm:=X.calm
 pn:=X.pn++pins
 xe:=λ_ _=>False
structure zmn(X:Cx)(scope:Scope)(tn cn:List Str)(cap:List Nat):Prop where
 kind:scope.kind=.function
 nocell:∀ y∈scope.names,y.2≠.cell
 names:∀ y∈scope.names,y.2=.local->scope.names.lookup y.1=some .local
 free:∀ y∈scope.names,y.2=.free->X.env.kindOf y.1=some .cell\/X.env.kindOf y.1=some .free
 drawn:∀ x∈cn,scope.names.lookup x=some .free
 caps:cap.map (λi=>X.N[i]?)=cn.map some
def zo2(k:Nat)(cap:List Nat)(σ:St):St:=List.replicate k none++cap.map λi=>(σ[i]?).join
theorem HOk.track{P:Program}{w:World}{H:Hp}{h:Heap}{a:Addr}{o:HO}(x:HOk P w H h)(hn:H a=none)(new:ObjOk P w (upd H a o) h a o):HOk P w (upd H a o) h:=λb u e=>by
 by_cases hb:b=a
 ·subst hb;rw[zac]at e;cases e;exact new
 ·rw[zah hb]at e
  refine(x b u e).stay (λ_ _ _ q=>q) (λc q=> ?_) λc xs q=> ?_
  ·rw[zah (zak q hn)];exact q
  ·rw[zah (zak q hn)];exact q
section
variable{X:Cx}{pins:List (Addr × Obj)}{σ:St}{H:Hp}{s:Shared}
theorem Inv.pinlt(I:Inv X pins σ H s){p:Addr × Obj}(hp:p∈X.pn++pins):p.1<s.heap.objs.size:=Heap.lt_size (I.pin p hp).1
theorem Inv.stkne(I:Inv X pins σ H s){b:Addr}(h1:b≠X.env.locals)(h2:b∉X.fs):b∉frs X.stack:=λz=>(List.mem_cons.mp (I.stkSub b z)).elim h1 h2
theorem Inv.stklt(I:Inv X pins σ H s){b:Addr}(h:b∈frs X.stack):b<s.heap.objs.size:=by
 obtain⟨_,o,ho,_⟩:=I.stack.mem h
 exact Heap.lt_size ho
theorem Inv.block {scope:Scope} {tn cn:List Str} {cap:List Nat} {cl:List (Str × Addr)} {C:Addr} {fp:List Addr} {pins':List (Addr × Obj)} {s1:Shared} (I:Inv X pins σ H s) (S:zmn X scope tn cn cap)
    (hcl:∀ x c,cl.lookup x=some c->X.env.cells.lookup x=some c) (hcl2:∀ x∈scope.names,x.2=.free->(cl.lookup x.1).isSome=true)
    (hf:∀ b∈fp,FpOk X pins H b) (hfl:∀ b∈fp,b<s.heap.objs.size) (hC:s.heap.objs.size<=C) (k:∀ b o,s.heap.get? b=some o->s1.heap.get? b=some o)
    (hos:s1.os=s.os) (hg:s1.gens=s.gens) (hns:∃ m,s1.heap.Ns C m)
    (hp:∀ p∈pins',s1.heap.get? p.1=some p.2/\H p.1=none/\p.1≠C/\p.1∉frs X.stack/\∀ v,p.2.data≠.cell v) :
    Inv (X.block pins s H (tn++cn) scope cl C fp) pins' (zo2 tn.length cap σ) H s1:=by
  have ok:(X.block pins s H (tn++cn) scope cl C fp).Ok:=by
    refine⟨I.ok.mod,S.kind,I.ok.glob,I.ok.blt,hC,λx y c h1 h2=>I.ok.inj x y c (hcl x c h1) (hcl y c h2),λx hx=> ?_,λx c z _=>(by cases z),I.ok.hd,I.ok.frames,.inl rfl,λb hb=>⟨?_,λx c e=>(hf b hb).2.2.2.2.1 x c (hcl x c e)⟩,I.bs,Nat.le_trans I.ok.bsz I.sz,λb o e hb=> ?_,λb hb=>I.stkne (hf b hb).2.1 (hf b hb).2.2.1,I.stack,I.stkFree⟩
    · rcases zk6 (env:=X.env) hx with z | z
      ·exact Option.isSome_iff_exists.mp (hcl2 _ z rfl)
      ·exact absurd rfl (S.nocell _ z)
    ·exact Nat.ne_of_lt (Nat.lt_of_lt_of_le (hfl b hb) hC)
    · rcases(hf b hb).2.2.2.1 with z | z
      ·exact I.ok.noex b o e z
      · have h1:b<X.base.objs.size:=Heap.lt_size e
        exact absurd (Nat.lt_of_lt_of_le h1 (Nat.le_trans I.ok.bsz z)) (Nat.lt_irrefl _)
  refine⟨ok,hos,by rw[hg];exact I.bare,Un.kept k,?_,λx c e=> ?_,I.hok.fresh hC,λx c e=>I.freeC x c (hcl x c e),λp hp'=> ?_,I.hok.kept k,?_⟩
  · obtain⟨m,hm⟩:=hns
    refine⟨m,hm,λi x v h1 h2 h3=> ?_⟩
    have hi:tn.length<=i:=by
      rcases Nat.lt_or_ge i tn.length with z | z
      · unfold zo2 at h2
        rw[List.getElem?_append_left (by simpa using z),List.getElem?_replicate]at h2
        split at h2<;>cases h2
      ·exact z
    unfold zo2 at h2
    rw[List.getElem?_append_right (by simpa using hi),List.length_replicate,List.getElem?_map]at h2
    have h1':cn[i - tn.length]? =some x:=by
      have:(tn++cn)[i]? =some x:=h1
      rwa [List.getElem?_append_right hi]at this
    cases hq:cap[i - tn.length]? with
    | none=>rw[hq]at h2;cases h2
    | some j =>
      rw[hq]at h2
      have hj:X.N[j]? =some x:=by
        have:=congrArg (λl=>l[i - tn.length]?) S.caps
        simp only[List.getElem?_map,hq,h1',Option.map_some]at this
        exact Option.some.inj this
      have hv:σ[j]? =some (some v):=by
        cases hs:σ[j]? with
        | none=>simp[hs]at h2
        | some y=>simp only[Option.map_some,hs,Option.join_some]at h2;cases h2;rfl
      have hxf:(x,NameKind.free)∈scope.names:=PySem.mem_of_lookup (S.drawn x (List.mem_of_getElem? h1'))
      have hk:=S.free _ hxf rfl
      obtain⟨m0,_,hl0⟩:=I.loc
      obtain⟨u,r,q⟩:=hl0 j x v hj hv (hk.elim (λz=>.inr (.inl z)) λz=>.inr (.inr z))
      refine⟨u,r,.inr ⟨zk5 (S.drawn x (List.mem_of_getElem? h1')),?_⟩⟩
      rcases q with⟨kl,_⟩ | ⟨_,c,hc,z⟩
      · have kl':X.env.kindOf x=some .local:=kl
        rcases hk with hk | hk<;>(rw[kl']at hk;cases hk)
      · obtain⟨c',hc'⟩:=Option.isSome_iff_exists.mp (hcl2 _ hxf rfl)
        have:=hcl _ _ hc'
        rw[hc]at this
        cases this
        exact⟨c,hc',z.keeps k⟩
  · obtain⟨v,z⟩:=I.cell x c (hcl x c e)
    exact⟨v,z.keeps k⟩
  · rcases List.mem_append.mp hp' with z | z
    · obtain⟨e,n,ne,nf,d⟩:=I.pin p z
      exact⟨k _ _ e,n,Nat.ne_of_lt (Nat.lt_of_lt_of_le (Heap.lt_size e) hC),I.stkne ne nf,d⟩
    ·exact hp p z
  · unfold zo2
    show _=(tn++cn).length
    have:=congrArg List.length S.caps
    simp only[List.length_map]at this
    simp[this]
end
def zg3:TT:=λ_ H Q=>Q true H
def PTs (X:Cx) (ifs:List Expr) (t:TT):Prop :=
  ∀ (pins:List (Addr × Obj)) (s:Shared) (σ:St) (H:Hp) (Q:Bool->Hp->Prop),Inv X pins σ H s->t σ H Q →
    wpAny (model X.prog X.w) X.A (forIn ifs true λc r=>if r=true then do let ok ← isTrue c X.env (eval c X.env);pure (ForInStep.yield ok)else pure (ForInStep.yield r)) (TP X pins σ Q) X.xe s
theorem zh9{X:Cx}:PTs X [] zg3:=λpins s σ H Q I h=>wpAny_tests_nil ⟨H,I,h⟩
theorem zym{X:Cx}{c:Expr}{t:TT}(h:PT X c t):PTs X [c] t:=λpins s σ H Q I q=>wpAny_tests_one (h pins s σ H Q I q)
theorem zux {prog:Program} {w:World} {A:Around} {R:Result->Shared->Prop} {s:Shared} {elt target iter:Expr} {ifs:List Expr} {scope:Scope} {pos:Pos} {it acc:Value} {env:Env} (Jn:Nat->Shared->Prop)
    (turn : ∀ n s,Jn n s->wpAny (model prog w) A (pyNext it) (λr s₁=>match r with
      | none=>R (.ok .next) s₁
      | some v=>wpAny (model prog w) A (letOwnedTupleGo target it v) (λ_ s₂=>wpAny (model prog w) A (assign target env v) (λ_ s₃ =>
          wpAny (model prog w) A (forIn ifs true λc r=>if r=true then do let ok ← isTrue c env (eval c env);pure (ForInStep.yield ok)else pure (ForInStep.yield r)) (λok s₄ =>
            if ok=true then wpAny (model prog w) A (eval elt env) (λx s₅ =>
              wpAny (model prog w) A (call (.builtin "list.append") [acc,x]) (λ_ s₆=>∃ m,m<n/\Jn m s₆) (λ_ _=>False) s₅) (λ_ _=>False) s₄
            else ∃ m,m<n/\Jn m s₄) (λ_ _=>False) s₃) (λ_ _=>False) s₂) (λ_ _=>False) s₁) (λ_ _=>False) s)
    (n:Nat) (h:Jn n s):codeAny (model prog w) A (.compLoop (.ListComp elt [⟨target,iter,ifs,0⟩] scope pos) 0 it acc env) R s:=by
  refine codeAny_loop rfl Jn (λn' s' hJ=> ?_) n h
  show wpAny _ A ((compTurn (.ListComp elt [⟨target,iter,ifs,0⟩] scope pos) 0 it acc env).onRaise (λx'=>do noteFrame x' env;theTreesLotGoes x')) _ _ s'
  refine wpAny_noted (wpAny_noRaise ?_)
  rw[compTurn_list]
  refine wpAny_bind (wpAny_standAt (wpAny_bind (thn (turn n' s' hJ) λr s₁ h₁=> ?_)))
  cases r with
  | none=>exact wpAny_pure h₁
  | some v =>
    refine wpAny_bind (thn h₁ λ_ s₂ h₂=> ?_)
    refine wpAny_bind (thn h₂ λ_ s₃ h₃=>wpAny_bind (thn h₃ λok s₄ h₄=> ?_))
    cases ok with
    | false=>exact wpAny_pure ⟨rfl,h₄⟩
    | true=>exact wpAny_bind (wpAny_bind (thn h₄ λx' s₅ h₅=>wpAny_bind (thn h₅ λ_ s₆ h₆=>wpAny_pure (wpAny_pure ⟨rfl,h₆⟩))))
def zjm (wi:TI) (g:TG) (tt:TT) (te:TE) (k:Nat) (cap:List Nat):TE:=λσ H Q=>wi σ H λJ H1 =>
  ∃ W : Nat->Nat->St->List V->Hp->Prop,(∃ m,W 0 m (zo2 k cap σ) [] H1)/\∀ i m σ' ys H,W i m σ' ys H →
    (J.stop i H/\∀ p,H p=none->Q (.ref p) (upd H p (.lst ys))) ∨
    (J.go i H/\ys.length<sizeLine/\∀ x H',J.yld i H x H'->g x σ' H' λσ2 H2=>tt σ2 H2 λb H3 =>
      if b=true then ∃ N:VK,(∀ y H4,N y H4->∃ m',m'<m/\W (i+1) m' σ2 (ys++[y]) H4)/\te σ2 H3 N else ∃ m',m'<m/\W (i+1) m' σ2 ys H3)
structure CompDone(X:Cx)(fp:List Addr)(H:Hp)(s:Shared)(Q:VK)(acc:Value)(C:Addr)(r:Result)(s':Shared):Prop where
 ok:r=.ok .next
 ex:∃ (D:Addr) (ys:List V) (its:List Value) (n:Nat) (H':Hp),acc=.ref D/\Vals ys its/\ys.length<=sizeLine/\s'.heap.get? D=some { cls:=.type "list",data:=.seq its.toArray n }/\s.heap.objs.size<=D/\D≠C/\H' D=none/\H' C=none ∧
  (∃ m,s'.heap.Ns C m)/\Un (frs X.stack) fp H H' s.heap s'.heap/\HOk X.prog X.w H' s'.heap/\∀ p,H' p=none->Q (.ref p) (upd H' p (.lst ys))
 ge:s.heap.objs.size<=C
 os:s'.os=s.os
 bare:AllBare s'.gens
section
variable{X:Cx}{pins:List (Addr × Obj)}{σ:St}{H:Hp}{s:Shared}
theorem zsw {tg iter elt:Expr} {ifs:List Expr} {scope:Scope} {pos:Pos} {g:TG} {tt:TT} {te:TE} {tn cn:List Str} {cap:List Nat} {cl:List (Str × Addr)} {it:Addr} {fp:List Addr} {tn':Nat->Heap->Prop} {J:It} {Q:VK} {E:Value->Shared->Prop}
    (I:Inv X pins σ H s) (S:zmn X scope tn cn cap) (hc:X.calm=true)
    (hcl:∀ x c,cl.lookup x=some c->X.env.cells.lookup x=some c) (hcl2:∀ x∈scope.names,x.2=.free->(cl.lookup x.1).isSome=true)
    (T:Turn X.prog X.w X.K tg J fp it tn') (st:tn' 0 s.heap) (hf:∀ b∈fp,FpOk X pins H b)
    (hg:∀ C,PG (X.block pins s H (tn++cn) scope cl C fp) tg g) (ht:∀ C,PTs (X.block pins s H (tn++cn) scope cl C fp) ifs tt) (he:∀ C,PE (X.block pins s H (tn++cn) scope cl C fp) elt te)
    (W:Nat->Nat->St->List V->Hp->Prop) {m0:Nat} (w0:W 0 m0 (zo2 tn.length cap σ) [] H)
    (step:∀ i m σ' ys H,W i m σ' ys H →
      (J.stop i H/\∀ p,H p=none->Q (.ref p) (upd H p (.lst ys))) ∨
      (J.go i H/\ys.length<sizeLine/\∀ x H',J.yld i H x H'->g x σ' H' λσ2 H2=>tt σ2 H2 λb H3 =>
        if b=true then ∃ N:VK,(∀ y H4,N y H4->∃ m',m'<m/\W (i+1) m' σ2 (ys++[y]) H4)/\te σ2 H3 N else ∃ m',m'<m/\W (i+1) m' σ2 ys H3)) :
    wpAny (model X.prog X.w) X.A (newList []) (λacc s₃=>wpAny (model X.prog X.w) X.A (newFunctionEnv scope X.env.globals cl [] X.env.qual none .none (some X.env)) (λcenv s₄ =>
      codeAny (model X.prog X.w) X.A (.compStart (.ListComp elt [⟨tg,iter,ifs,0⟩] scope pos) 0 (.ref it) acc { cenv with scope:=relabel scope X.env }) (CompDone X fp H s Q acc cenv.locals) s₄) E s₃) E s:=by
  refine wpAny_newObj_type (wpAny_newFunctionEnv S.nocell (by intro y hy;simp at hy) (λh₁ hns₁ hsb₁=> ?_) S.kind)
  dsimp only at hns₁ hsb₁ ⊢
  generalize hH2:s.heap.push { cls:=.type "list",dict:=none,data:=.seq ([]:List Value).toArray }=H2 at hns₁ hsb₁ ⊢
  have hCs:H2.objs.size=s.heap.objs.size+1:=by rw[<-hH2,Heap.size_push]
  generalize hCe:H2.objs.size=C at hns₁ hsb₁ ⊢
  have hC:C=s.heap.objs.size+1:=hCe.symm.trans hCs
  generalize hD:s.heap.objs.size=D at *
  have hDC:D≠C:=by rw[hC];exact Nat.ne_of_lt (Nat.lt_succ_self _)
  have old:∀ b o,s.heap.get? b=some o->h₁.get? b=some o:=λb o e=>by
    have hb:b<D:=by rw[<-hD];exact Heap.lt_size e
    have hbC:b≠C:=zg2 hb (by rw[hC];exact Nat.le_succ _)
    exact hsb₁.extBut b o hbC (Heap.get?_push_of_some _ (hH2 ▸ Heap.get?_push_of_some _ e))
  have hDo:h₁.get? D=some { cls:=.type "list",data:=.seq ([]:List Value).toArray }:=by
    refine hsb₁.extBut _ _ hDC (Heap.get?_push_of_some _ ?_)
    rw[<-hH2,<-hD]
    exact Heap.get?_push_size _ rfl
  have hfl:∀ b∈fp,b<s.heap.objs.size:=λb hb=>by
    obtain⟨o,e,_⟩:=T.obj 0 _ st b hb
    exact Heap.lt_size e
  have hDn:H D=none:=by rw[<-hD];exact I.hok.fresh (Nat.le_refl _)
  have hDs:D∉frs X.stack:=λz=>zg2 (I.stklt z) (Nat.le_of_eq hD) rfl
  have I0:Inv (X.block pins s H (tn++cn) scope cl C fp) [(D,{ cls:=.type "list",data:=.seq ([]:List Value).toArray 0 })] (zo2 tn.length cap σ) H { s with heap:=h₁,toks:=s.toks+([]:List (Str × Value)).length } :=
    I.block S hcl hcl2 hf hfl (by omega) old rfl rfl ⟨_,hns₁⟩ λp hp=>by
      rw[List.mem_singleton]at hp
      subst hp
      exact⟨hDo,hDn,hDC,hDs,λv z=>nomatch z⟩
  have fpok:∀ {H':Hp} {o:Obj},(∀ b∈fp,H' b=none)->∀ b∈fp,FpOk (X.block pins s H (tn++cn) scope cl C fp) [(D,o)] H' b:=λ{H' o} hn b hb=>by
    obtain⟨_,f1,f2,f3,f4,f5⟩:=hf b hb
    have hbl:=hfl b hb
    refine⟨hn b hb,?_,I.stkne f1 f2,.inl hb,λx c e=>f4 x c (hcl x c e),λp hp=> ?_⟩
    ·exact zg2 hbl (by rw[hD,hC];exact Nat.le_succ _)
    · rcases List.mem_append.mp hp with z | z
      ·exact f5 p z
      ·rw[List.mem_singleton]at z;subst z;exact Ne.symm (zg2 hbl (Nat.le_of_eq hD))
  have st1:tn' 0 h₁:=T.keep _ _ _ st λb _ o e=>old b o e
  have loop : ∀ s₃:Shared,s₃={ s with heap:=h₁,toks:=s.toks+([]:List (Str × Value)).length } →
      codeAny (model X.prog X.w) X.A (.compLoop (.ListComp elt [⟨tg,iter,ifs,0⟩] scope pos) 0 (.ref it) (.ref D) (compEnvC scope cl C X.env)) (CompDone X fp H s Q (.ref D) C) s₃:=by
    rintro s₃ rfl
    refine zux (λn s'=>∃ i σ' ys its nn H',Inv (X.block pins s H (tn++cn) scope cl C fp) [(D,{ cls:=.type "list",data:=.seq (its:List Value).toArray nn })] σ' H' s'/\tn' i s'.heap/\(∀ b∈fp,H' b=none)/\Vals ys its/\ys.length<=sizeLine/\W i n σ' ys H') ?_ m0
      ⟨0,_,[],[],0,H,I0,st1,λb hb=>(hf b hb).1,.nil,Nat.zero_le _,w0⟩
    rintro n s4 ⟨i,σ4,ys,its,nn,H4,I4,st4,fr4,r4,l4,w4⟩
    rcases step i n σ4 ys H4 w4 with⟨stop,qn⟩ | ⟨go,hlt,next⟩
    · refine thn (T.done (X.block pins s H (tn++cn) scope cl C fp) rfl rfl rfl hc i _ s4 σ4 H4 _ I4 (fpok fr4) st4 stop) λr s5 ⟨hr,I5⟩=> ?_
      subst hr
      have hp:=I5.pin (D,_) (List.mem_append_right _ List.mem_cons_self)
      obtain⟨m5,hm5,_⟩:=I5.loc
      exact⟨rfl,⟨D,ys,its,nn,H4,rfl,r4,l4,hp.1,by omega,hDC,hp.2.1,I5.free,⟨m5,hm5⟩,I5.base,I5.hok,qn⟩,by omega,I5.os,I5.bare⟩
    · refine thn (T.item (X.block pins s H (tn++cn) scope cl C fp) rfl rfl rfl hc i _ s4 σ4 H4 _ I4 (fpok fr4) st4 go) λr s5 ⟨u,hr,h5⟩=> ?_
      subst hr
      refine thn h5 λ_ s6 ⟨x,H6,I6,r6,y6,st6,fr6⟩=> ?_
      have I6':=I6.pinned (fpok fr6) (T.obj _ _ st6)
      refine thn (hg C _ s6 σ4 H6 x u _ I6' r6 (next x H6 y6)) λ_ s7 ⟨σ7,H7,I7,q7⟩=> ?_
      refine thn (ht C _ s7 σ7 H7 _ I7 q7) λok s8 ⟨H8,I8,q8⟩=> ?_
      have keepst:∀ {σ9:St} {H9:Hp} {s9:Shared},Inv (X.block pins s H (tn++cn) scope cl C fp) ([(D,{ cls:=.type "list",data:=.seq its.toArray nn })]++zp6 fp s6.heap) σ9 H9 s9->(∀ b∈fp,∀ o,s6.heap.get? b=some o->s9.heap.get? b=some o)/\∀ b∈fp,H9 b=none:=λ{σ9 H9 s9} I9=>by
        refine⟨λb hb o e=>(I9.pin (b,o) (List.mem_append_right _ (List.mem_append_right _ (zhj hb e)))).1,λb hb=> ?_⟩
        obtain⟨o,e,_⟩:=T.obj _ _ st6 b hb
        exact(I9.pin (b,o) (List.mem_append_right _ (List.mem_append_right _ (zhj hb e)))).2.1
      cases ok with
      | false =>
        obtain⟨m',hm',w'⟩:=q8
        obtain⟨k1,k2⟩:=keepst I8
        exact⟨m',hm',i+1,σ7,ys,its,nn,H8,I8.unpinned,T.keep _ _ _ st6 k1,k2,r4,l4,w'⟩
      | true =>
        obtain⟨Nw,hN,q8⟩:=q8
        refine thn (he C _ s8 σ7 H8 Nw I8 q8) λv s9 ⟨y,H9,I9,r9,n9⟩=> ?_
        obtain⟨m',hm',w'⟩:=hN y H9 n9
        obtain⟨k1,k2⟩:=keepst I9
        have hp:=I9.pin (D,_) (List.mem_append_right _ (List.mem_append_left _ List.mem_cons_self))
        have e:=hp.1
        have hlen:=r4.length
        refine call_meets F.slot_list_append ⟨_,e,rfl⟩ F.entry_list_append (F.args_list_append_2 _ _) (PySem.list_append D its.toArray nn v (by rw[List.size_toArray];omega)) ⟨e,?_⟩
        have q:=PySem.IsL.update e (λxs=>xs.push v)
        have Ia:Inv (X.block pins s H (tn++cn) scope cl C fp) [] σ7 H9 s9:=I9.pins_of λp hp=>nomatch hp
        have Ib:=Ia.turned (h':=s9.heap.update D (Obj.mapSeq (·.push v))) (t':=s9.toks) (it:=D) (λb o hb eb=>(Heap.get?_update_other _ _ (Ne.symm hb)).trans eb) hp.2.1 hDC (.inr (by show s.heap.objs.size<=D;omega))
          (λx c ec z=>by
            obtain⟨vv,zc⟩:=I.cell x c (hcl x c ec)
            exact zg2 zc.lt (Nat.le_of_eq hD) z)
          (λp hp'=>by
            rw[List.append_nil]at hp'
            exact zg2 (I.pinlt hp') (Nat.le_of_eq hD))
        have q':(s9.heap.update D (Obj.mapSeq (·.push v))).get? D=some { cls:=.type "list",data:=.seq (its++[v]).toArray (nn+1) }:=by
          rw[if_neg (by simp)]at q
          rw[<-List.push_toArray]
          exact q
        refine⟨m',hm',i+1,σ7,ys++[y],its++[v],nn+1,H9,Ib.pins_of (λp hp'=> ?_),T.keep _ _ _ st6 λb hb o eb=> ?_,k2,r4.append (.cons r9 .nil),?_,w'⟩
        · rw[List.mem_singleton]at hp'
          subst hp'
          exact⟨q',hp.2.1,hDC,hDs,λv' z=>nomatch z⟩
        · have hbl:=hfl b hb
          exact(Heap.get?_update_other _ _ (Ne.symm (zg2 hbl (Nat.le_of_eq hD)))).trans (k1 b hb o eb)
        · rw[List.length_append,List.length_singleton]
          omega
  exact codeAny_compStart_list (loop _ rfl) (T.self _ 0 _ _ _ st1 (loop _ rfl))
theorem CompDone.inv{Q:VK}{acc:Value}{C:Addr}{r:Result}{s':Shared}{fp:List Addr}(I:Inv X pins σ H s)(hf:∀ b∈fp,FpOk X pins H b)(h:CompDone X fp H s Q acc C r s') :
  ∃ D H',acc=.ref D/\Inv X pins σ H' s'/\Q (.ref D) H'/\H' C=none/\∃ m,s'.heap.Ns C m:=by
 obtain⟨_,⟨D,ys,its,n,H',rfl,r4,l4,e,hD,hDC,hDn,hCn,hm,u,ok,q⟩,hC,os,bare⟩:=h
 have lt:∀ b o,s.heap.get? b=some o->b≠D:=λb o eb=>zg2 (Heap.lt_size eb) hD
 have ltH:∀ b o,H b=some o->b≠D:=λb o eb=>zg2 (I.hok.lt eb) hD
 refine⟨D,upd H' D (.lst ys),rfl,I.call' (ch:=fp) os ⟨u.keep,u.slot,λb o eb n' hx=> ?_,u.there,λb xs eb=> ?_,λb o x eb=> ?_,λb ps eb=> ?_⟩ (ok.track hDn ⟨l4,its,n,r4,e⟩) bare (λb hb=> ?_),q D hDn,?_,hm⟩
 ·rw[zah (lt b o eb)];exact u.free b o eb n' hx
 ·rw[zah (ltH b _ eb)];exact u.tups b xs eb
 ·rw[zah (ltH b _ eb)];exact u.frzs b o x eb
 ·rw[zah (ltH b _ eb)];exact u.tbls b ps eb
 ·obtain⟨_,f1,f2,f3,f4,f5⟩:=hf b hb
  exact⟨f3,f1,f4,f5⟩
 ·rw[zah (Ne.symm hDC)];exact hCn
theorem Inv.letgo{C:Addr}{h':Heap}{s1:Shared}{σ1:St}{H1:Hp}(I:Inv X pins σ H s)(hC:s.heap.objs.size<=C)(I1:Inv X pins σ1 H1 s1)(hn:H1 C=none)(hs:Heap.SameBut C s1.heap h'):Inv X pins σ1 H1 { s1 with heap:=h' }:=by
 refine I1.turned (t':=s1.toks) (it:=C) (λb o hb e=>(hs.2 b hb).trans e) hn (λz=> ?_) (.inr ?_) (λx c e z=> ?_) λp hp z=> ?_
 ·exact zg2 I.lt hC z.symm
 ·exact Nat.le_trans I.sz hC
 ·obtain⟨v,zc⟩:=I.cell x c e
  exact zg2 zc.lt hC z
 ·exact zg2 (I.pinlt hp) hC z
variable{tg iter elt:Expr}{ifs:List Expr}{scope:Scope}{pos:Pos}{wi:TI}{g:TG}{tt:TT}{te:TE}{tn cn:List Str}{cap:List Nat}
theorem zkg(S:zmn X scope tn cn cap)(hc:X.calm=true)(hi:PI X tg iter wi)
  (hg:∀ pins s H cl C fp,PG (X.block pins s H (tn++cn) scope cl C fp) tg g) (ht:∀ pins s H cl C fp,PTs (X.block pins s H (tn++cn) scope cl C fp) ifs tt) (he:∀ pins s H cl C fp,PE (X.block pins s H (tn++cn) scope cl C fp) elt te)
  (hs:∀ x,foldedSetIterable iter X.env x=pure x:=by intro _;rfl):PE X (.ListComp elt [⟨tg,iter,ifs,0⟩] scope pos) (zjm wi g tt te tn.length cap):=by
 intro pins s σ H Q I h
 obtain⟨cl,ecl,hcl,hcl2⟩:=zmm (env:=X.env) (scope:=scope) λx hx hxf=>I.ok.has x.1 (S.free x hx hxf)
 rw[eval_ListComp]
 refine wpAny_comprehension_free (use:=none) rfl hs ecl S.kind S.names (thn (hi pins s σ H _ I h) λv s1 h1=>thn h1 λitv s2 h2=> ?_)
 obtain⟨it,fp,tn',J,H2,e,I2,T,st2,f2,W,⟨m0,w0⟩,turn⟩:=h2
 subst e
 refine thn (zsw I2 S hc hcl hcl2 T st2 f2 (λC=>hg _ _ _ _ C _) (λC=>ht _ _ _ _ C _) (λC=>he _ _ _ _ C _) W w0 turn) λacc s3 h3=>thn h3 λcenv s4 h4=>codeAny_mono h4 λr s5 h5=> ?_
 have hr:=h5.ok
 subst hr
 obtain⟨D,H',rfl,I5,q5,hCn,m,hm⟩:=h5.inv I2 f2
 exact⟨m,hm,λh' hs'=>⟨.ref D,H',I2.letgo h5.ge I5 hCn hs',rfl,q5⟩⟩
theorem zuy{i:Nat}{x:Str}{px spos:Pos}(S:zmn X scope tn cn cap)(hc:X.calm=true)(hN:X.N.Nodup)(hi':X.N[i]? =some x)(hx:X.env.scope.names.lookup x=some .local)(hi:PI X tg iter wi)
  (hg:∀ pins s H cl C fp,PG (X.block pins s H (tn++cn) scope cl C fp) tg g) (ht:∀ pins s H cl C fp,PTs (X.block pins s H (tn++cn) scope cl C fp) ifs tt) (he:∀ pins s H cl C fp,PE (X.block pins s H (tn++cn) scope cl C fp) elt te)
  (hsw:swapsWith (.ListComp elt [⟨tg,iter,ifs,0⟩] scope pos) (some (.Name x px)) spos.line X.env=pure true:=by rfl)
  (hs:∀ x,foldedSetIterable iter X.env x=pure x:=by intro _;rfl):PS X (.Assign [.Name x px] (.ListComp elt [⟨tg,iter,ifs,0⟩] scope pos) spos) (tAsg (zjm wi g tt te tn.length cap) (zbw i)):=by
 intro pins s σ H D I h
 obtain⟨cl,ecl,hcl,hcl2⟩:=zmm (env:=X.env) (scope:=scope) λx hx hxf=>I.ok.has x.1 (S.free x hx hxf)
 rw[exec_Assign_Name_used _ _ _ _ hsw]
 refine wpAny_bind (wpAny_standAt (wpAny_bind ?_))
 unfold evalThenUse
 refine wpAny_bind ?_
 refine wpAny_comprehension_free (use:=some (assign (.Name x px) X.env)) rfl hs ecl S.kind S.names (thn (hi pins s σ H _ I h) λv s1 h1=>thn h1 λitv s2 h2=> ?_)
 obtain⟨it,fp,tn',J,H2,e,I2,T,st2,f2,W,⟨m0,w0⟩,turn⟩:=h2
 subst e
 refine thn (zsw (Q:=λx' H1=>zbw i x' σ H1 D.nx) I2 S hc hcl hcl2 T st2 f2 (λC=>hg _ _ _ _ C _) (λC=>ht _ _ _ _ C _) (λC=>he _ _ _ _ C _) W w0 turn) λacc s3 h3=>thn h3 λcenv s4 h4=>codeAny_mono h4 λr s5 h5=> ?_
 have hr:=h5.ok
 subst hr
 obtain⟨Da,H',rfl,I5,q5,hCn,m,hm⟩:=h5.inv I2 f2
 show wpAny _ _ (assign (.Name x px) X.env (.ref Da)) _ _ s5
 refine wpAny_assign_Name (zp4 I5 hN hi' (.inl hx) (show RelV (.ref Da) (.ref Da)from rfl) (λs6 I6 ⟨a,hsb,ha⟩=> ?_) (.inr hx))
 refine⟨m,hm.sameBut hsb ?_,λh' hs'=> ?_⟩
 ·rcases ha with z | z
  ·exact Ne.symm (z ▸ zg2 I2.lt h5.ge)
  ·obtain⟨vv,zc⟩:=I2.cell x a z
   exact Ne.symm (zg2 zc.lt h5.ge)
 ·exact wpAny_pure (wpAny_pure ⟨σ.set i (some (.ref Da)),H',I2.letgo h5.ge I6 hCn hs',q5⟩)
end
end L2
set_option linter.all false
set_option maxHeartbeats 4000000
namespace L2
open PySem PySem.Spec PyProof.Rows
theorem ObjOk.there{P:Program}{w:World}{H:Hp}{h:Heap}{a:Addr}{o:HO}(x:ObjOk P w H h a o):∃ ob,h.get? a=some ob:=by
 cases o with
 | lst xs=>obtain⟨_,_,_,_,e⟩:=x;exact⟨_,e⟩
 | tup xs=>obtain⟨_,_,_,ob,e,_⟩:=x;exact⟨_,e⟩
 | dK kvs=>obtain⟨_,_,_,_,ob,_,_,e,_⟩:=x;exact⟨_,e⟩
 | dT kvs=>obtain⟨_,_,_,_,ob,_,_,e,_⟩:=x;exact⟨_,e⟩
 | set S n=>obtain⟨ob,_,_,_,e,_⟩:=x;exact⟨_,e⟩
 | ins C dx fs=>obtain⟨_,_,_,e,_⟩:=x;exact⟨_,e⟩
 | own y=>exact x
 | xd fs=>obtain⟨_,⟨ob,_,_,e,_⟩,_⟩:=x;exact⟨_,e⟩
 | rng lo hi=>obtain⟨_,_,_,e⟩:=x;exact⟨_,e⟩
 | frz ob u=>obtain⟨e,_⟩:=x;exact⟨_,e⟩
 | tbl ps=>exact⟨_,show h.get? a=some _ from x⟩
 | met f y=>exact⟨_,show h.get? a=some _ from x⟩
 | ext φ =>exact x.2.1
theorem HOk.nh{P:Program}{w:World}{H:Hp}{h:Heap}{a:Addr}(x:HOk P w H h)(e:h.get? a=none):H a=none:=by
  cases q:H a with
  | none=>rfl
  | some o =>
    obtain⟨ob,e'⟩:=(x a o q).there
    rw[e]at e';cases e'
section
variable{X:Cx}{pins:List (Addr × Obj)}{σ:St}{H H':Hp}{s:Shared}{h':Heap}
theorem Inv.stepN{g':Array GenState}{t':Nat}{d':Drawn}{ch:List Addr}(I:Inv X pins σ H s)
  (hch:∀ b∈ch,(b∈X.ex\/X.s₀.heap.get? b=none)/\b≠X.env.locals/\(∀ x c,X.env.cells.lookup x=some c->c≠b)/\∀ p∈X.pn++pins,p.1≠b)
  (keep:∀ b o,b≠X.env.locals->b∉X.fs->b∉ch->s.heap.get? b=some o->H b=none->h'.get? b=some o)
  (slot:∀ b o,b≠X.env.locals->b∈X.fs->b∉ch->s.heap.get? b=some o->H b=none->∃ sl,h'.get? b=some { o with slots:=sl }) (free:∀ b o,b∉ch->s.heap.get? b=some o->H b=none->H' b=none)
  (there:∀ b o,b∉ch->s.heap.get? b=some o->∃ o',h'.get? b=some o')
  (tups:∀ b xs,H b=some (.tup xs)->H' b=some (.tup xs)) (frzs:∀ b o u,H b=some (.frz o u)->H' b=some (.frz o u)) (tbls:∀ b ps,H b=some (.tbl ps)->∃ more,H' b=some (.tbl (ps++more)))
  (ns:∀ m,s.heap.Ns X.env.locals m->h'.Ns X.env.locals m) (hok:HOk X.prog X.w H' h') (hg:AllBare g') :
  Inv X pins σ H' { s with heap:=h',gens:=g',drawn:=d',toks:=t' }:=by
 have neL:∀ b o,X.s₀.heap.get? b=some o->b≠X.env.locals:=λb o e=>Nat.ne_of_lt (Nat.lt_of_lt_of_le (Heap.lt_size e) I.ok.above)
 have neC:∀ b o,X.s₀.heap.get? b=some o->b∉X.ex->b∉ch:=λb o e hx hb=>by
  rcases(hch b hb).1 with z | z
  ·exact hx z
  ·rw[e]at z;cases z
 have cellK:∀ x c,X.env.cells.lookup x=some c->∀ v,s.heap.IsCell c v->h'.IsCell c v:=λx c e v ⟨o,ho,hd⟩=>by
  have nch:c∉ch:=λz=>(hch c z).2.2.1 x c e rfl
  by_cases hc:c∈X.fs
  ·obtain⟨sl,q⟩:=slot c o (I.cne x c e) hc nch ho (I.freeC x c e)
   exact⟨_,q,hd⟩
  ·exact⟨o,keep c o (I.cne x c e) hc nch ho (I.freeC x c e),hd⟩
 refine⟨I.ok,I.os,hg,⟨λb o e n hb hx=> ?_,λb o e n hb hx=> ?_,λb o e n hx=> ?_,λb o e hx=> ?_,λb xs e=>tups b xs (I.base.tups b xs e),λb o xs e=>frzs b o xs (I.base.frzs b o xs e),λb ps e=> ?_⟩,?_,λx c e=> ?_,?_,λx c e=> ?_,λp hp=> ?_,hok,I.len⟩
 ·exact keep b o (neL b o e) hb (neC b o e hx) (I.base.keep b o e n hb hx) (I.base.free b o e n hx)
 ·obtain⟨sl,e1⟩:=I.base.slot b o e n hb hx
  obtain⟨sl',e2⟩:=slot b _ (neL b o e) hb (neC b o e hx) e1 (I.base.free b o e n hx)
  exact⟨sl',e2⟩
 ·obtain⟨o',e1⟩:=I.base.there b o e hx
  exact free b o' (neC b o e hx) e1 (I.base.free b o e n hx)
 ·obtain⟨o',e1⟩:=I.base.there b o e hx
  exact there b o' (neC b o e hx) e1
 ·obtain⟨m1,e1⟩:=I.base.tbls b ps e
  obtain⟨m2,e2⟩:=tbls b _ e1
  exact⟨m1++m2,by rw[e2,Array.append_assoc]⟩
 ·obtain⟨m,hn,hl⟩:=I.loc
  refine⟨m,ns m hn,λi x v e1 e2 e3=> ?_⟩
  obtain⟨u,r,l⟩:=hl i x v e1 e2 e3
  refine⟨u,r,?_⟩
  rcases l with l | ⟨k,c,e,z⟩
  ·exact .inl l
  ·exact .inr ⟨k,c,e,cellK x c e _ z⟩
 ·obtain⟨v,z⟩:=I.cell x c e
  exact⟨v,cellK x c e v z⟩
 ·obtain⟨m,⟨o,_,_,ho,_⟩,_⟩:=I.loc
  exact free _ o (λz=>(hch _ z).2.1 rfl) ho I.free
 ·obtain⟨v,o,ho,hd⟩:=I.cell x c e
  exact free c o (λz=>(hch c z).2.2.1 x c e rfl) ho (I.freeC x c e)
 ·obtain⟨e,n,ne,nf,d⟩:=I.pin p hp
  have nch:p.1∉ch:=λz=>(hch p.1 z).2.2.2 p hp rfl
  exact⟨keep p.1 p.2 ne nf nch e n,free p.1 p.2 nch e n,ne,nf,d⟩
end
structure Fly(bad:Addr->Prop)(H:Hp)(h:Heap)(e:Addr)(cls:Value):Prop where
 nb:¬ bad e
 free:H e=none
 ex:∃ (oe:Obj) (vs:Array Value),h.get? e=some oe/\oe.cls=cls/\oe.dict=none/\oe.data=.fields vs/\(vs[1]? =some .none ∨
  ∃ (T:Addr) (oT:Obj) (ts:Array Value),vs[1]? =some (.ref T)/\¬ bad T/\H T=none/\T≠e/\h.get? T=some oT/\oT.data=.fields ts/\ts[3]? =some .none)
theorem Fly.mono{bad bad':Addr->Prop}{H:Hp}{h:Heap}{e:Addr}{cls:Value}(F:Fly bad H h e cls)(k:∀ a,bad' a->bad a):Fly bad' H h e cls:=by
 obtain⟨nb,fr,oe,vs,h1,h2,h3,h4,h5⟩:=F
 refine⟨λz=>nb (k _ z),fr,oe,vs,h1,h2,h3,h4,?_⟩
 rcases h5 with z | ⟨T,oT,ts,a,b,c⟩
 ·exact .inl z
 ·exact .inr ⟨T,oT,ts,a,λz=>b (k _ z),c⟩
section
variable{M:Model}{A:Around}{E:Value->Shared->Prop}{s:Shared}
theorem zom{base:Heap}{env:Env}{outer:List Env}{L e:Addr}{oe:Obj}{vs:Array Value}{hd:Value}{nx:Bool}{Q:Unit->Shared->Prop}
  (hfr:A.frames=some (env::outer)) (hl:s.heap.FunFrames base (env::outer)) (hf:env.frame=some L) (he:s.heap.get? e=some oe) (hdt:oe.data=.fields vs) (hsz:1<vs.size)
  (h:∀ h' T oT ts,(∀ b o,s.heap.get? b=some o->b≠e->b∉frs (env::outer)->h'.get? b=some o)->(∀ b o,s.heap.get? b=some o->b≠e->∃ sl,h'.get? b=some { o with slots:=sl }) →
   h'.get? e=some (oe.mapFields (·.setIfInBounds 1 (.ref T)))->s.heap.objs.size<=T->h'.get? T=some oT->oT.data=.fields ts->ts[3]? =some (rawInt L)->Q () { s with heap:=h' }) :
  wpAny M A (do let a ← frameOf env;let pl ← entryPlaceOf L nx;let b ← EntryCells.newEntry hd a .none (rawInt L) .none pl;setField (.ref e) 1 b) Q E s:=by
 have hne:e∉(env::outer).filterMap (·.frame):=λz=>by
  obtain⟨_,o,ho,hn⟩:=hl.mem z
  rw[he]at ho;cases ho
  exact hn vs hdt
 refine wpAny_bind (wpAny_frameOf_fun hfr hl hf λh1 hs1=> ?_)
 refine wpAny_bind (wpAny_entryPlaceOf λpl hpl=> ?_)
 unfold EntryCells.newEntry newFields
 refine wpAny_bind (wpAny_newObj_type ?_ (hpl.sizeOk5 _ _ _ _ _))
 have he1:h1.get? e=some oe:=(hs1.2.1 e hne).trans he
 refine wpAny_setField (Heap.get?_push_of_some _ he1) hdt hsz ?_
 have hTe:h1.objs.size≠e:=Nat.ne_of_gt (Heap.lt_size he1)
 have hd3:=Obj.data_mapFields hdt (·.setIfInBounds 1 (Value.ref h1.objs.size))
 have keep:∀ b o,b≠e->h1.get? b=some o->((h1.push { cls:=.type "traceback",dict:=none,data:=.fields ([hd,.ref L,.none,rawInt L,.none]++(if pl.isEmpty then List.replicate 6 Value.none else pl)).toArray }).update e (Obj.mapFields (·.setIfInBounds 1 (Value.ref h1.objs.size)))).get? b=some o:=λb o hb e1=>by
  rw[Heap.get?_update_other _ _ (Ne.symm hb)]
  exact Heap.get?_push_of_some _ e1
 refine h _ h1.objs.size _ _ (λb o e1 hb hnf=>keep b o hb ((hs1.2.1 b hnf).trans e1)) (λb o e1 hb=> ?_) (Heap.get?_update_self _ (Heap.get?_push_of_some _ he1) (Obj.isFreed_of_fields hd3)) (by rw[hs1.1];exact Nat.le_refl _)
  ((Heap.get?_update_other _ _ (Ne.symm hTe)).trans (Heap.get?_push_size _ rfl)) rfl ?_
 ·obtain⟨sl,e2⟩:=hs1.2.2 b o e1
  exact⟨sl,keep b _ hb e2⟩
 ·first | (simp;done) | (rcases hpl with rfl | ⟨_,_,_,_,_,_,_,rfl⟩<;>simp)
structure zyn(fr:List Addr)(bad:Addr->Prop)(H:Hp)(e:Addr)(cls:Value)(h h':Heap):Prop where
 ch:∃ ch:List Addr,(∀ b∈ch,¬ bad b/\H b=none/\∃ o vs,h.get? b=some o/\o.data=.fields vs)/\(∀ b o,h.get? b=some o->b∉ch->b∉fr->h'.get? b=some o) ∧
  (∀ b o,h.get? b=some o->b∉ch->∃ sl,h'.get? b=some { o with slots:=sl })
 fly:Fly bad H h' e cls
theorem zsx {A2:Around} {E2:Value->Shared->Prop} {base:Heap} {env:Env} {outer:List Env} {L e:Addr} {cls:Value} {bad:Addr->Prop} {H:Hp} {Q:Unit->Shared->Prop}
    (hfr:A.frames=some (env::outer)) (hl:s.heap.FunFrames base (env::outer)) (hf:env.frame=some L) (F:Fly bad H s.heap e cls) (hb:∀ a,s.heap.objs.size<=a->¬ bad a) (hH:∀ a,s.heap.objs.size<=a->H a=none)
    (h:∀ h',zyn (frs (env::outer)) bad H e cls s.heap h'->Q () { s with heap:=h' }) :
    wpAny M A (noteFrame (.ref e) env) (λ_ s2=>wpAny M A2 (setFlight (.ref e) none) Q E2 s2) E s:=by
  obtain⟨nb,fr,oe,vs,he,hcls,hdict,hd,htb⟩:=F
  have rest:∀ (s1:Shared) (ch:List Addr) (h':Heap) (T:Addr) (oT:Obj) (ts:Array Value) (oe1:Obj),(∀ b o,s.heap.get? b=some o->s1.heap.get? b=some o\/b∈ch)->s1.heap.objs.size=s.heap.objs.size->e∈ch->(∀ b∈ch,¬ bad b/\H b=none/\∃ o vs,s.heap.get? b=some o/\o.data=.fields vs) →
      oe1.cls=cls->oe1.dict=none->oe1.data=.fields vs->1<vs.size →
      (∀ b o,s1.heap.get? b=some o->b≠e->b∉frs (env::outer)->h'.get? b=some o)->(∀ b o,s1.heap.get? b=some o->b≠e->∃ sl,h'.get? b=some { o with slots:=sl }) →
      h'.get? e=some (oe1.mapFields (·.setIfInBounds 1 (.ref T)))->s1.heap.objs.size<=T->h'.get? T=some oT->oT.data=.fields ts->ts[3]? =some (rawInt L)->wpAny M A2 (setFlight (.ref e) none) Q E2 { s with heap:=h' }:=by
    intro s1 ch h' T oT ts oe1 hk1 hsz hech hch hcls1 hdict1 hd1 hv k1 k2 e1 hT e2 hdT h3
    have hT':s.heap.objs.size<=T:=hsz ▸ hT
    have hTe:T≠e:=Ne.symm (zg2 (Heap.lt_size he) hT')
    have hde:=Obj.data_mapFields hd1 (·.setIfInBounds 1 (Value.ref T))
    unfold setFlight
    refine wpAny_bind (wpAny_field e1 hde (x:=.ref T) (by simp[hv]) ?_)
    rw[if_pos (show(Value.ref T != Value.none)=true from by simp)]
    have hs3:3<ts.size:=(Array.getElem?_eq_some_iff.mp h3).1
    refine wpAny_setField e2 hdT hs3 (h _ ?_)
    have oth:∀ b,b≠T->(h'.update T (Obj.mapFields (·.setIfInBounds 3 ((none:Option Addr).elim Value.none λf=>rawInt f)))).get? b=h'.get? b:=λb hb'=>Heap.get?_update_other _ _ (Ne.symm hb')
    have ltT:∀ b o,s.heap.get? b=some o->b≠T:=λb o eb=>zg2 (Heap.lt_size eb) hT'
    refine⟨⟨ch,hch,λb o eb hbc hbf=> ?_,λb o eb hbc=> ?_⟩,nb,fr,_,_,(oth e (Ne.symm hTe)).trans e1,(Obj.cls_mapFields _ _).trans hcls1,?_,hde,.inr ⟨T,_,_,by simp[hv],hb T hT',hH T hT',hTe,Heap.get?_update_self _ e2 (Obj.isFreed_of_fields (Obj.data_mapFields hdT _)),Obj.data_mapFields hdT _,by simp[hs3]⟩⟩
    · rw[oth b (ltT b o eb)]
      rcases hk1 b o eb with z | z
      ·exact k1 b o z (λz'=>hbc (z' ▸ hech)) hbf
      ·exact absurd z hbc
    · rw[oth b (ltT b o eb)]
      rcases hk1 b o eb with z | z
      ·exact k2 b o z (λz'=>hbc (z' ▸ hech))
      ·exact absurd z hbc
    · obtain⟨c1,c2,c3,c4⟩:=oe1
      dsimp only at hd1
      subst hd1
      exact hdict1
  unfold noteFrame
  simp only[hf]
  rcases htb with h1 | ⟨T0,oT0,ts0,h1,nbT,frT,neT,eT,dT,h3⟩
  · have hv:1<vs.size:=(Array.getElem?_eq_some_iff.mp h1).1
    refine wpAny_bind (wpAny_field he hd h1 ?_)
    rw[if_neg (by decide)]
    refine zom hfr hl hf he hd hv λh' T oT ts k1 k2 e1 hT e2 hdT h3=> ?_
    exact rest s [e] h' T oT ts oe (λb o eb=>.inl eb) rfl (by simp) (λb hb'=>by rw[List.mem_singleton]at hb';subst hb';exact⟨nb,fr,oe,vs,he,hd⟩) hcls hdict hd hv k1 k2 e1 hT e2 hdT h3
  · have hv:1<vs.size:=(Array.getElem?_eq_some_iff.mp h1).1
    refine wpAny_bind (wpAny_field he hd h1 ?_)
    rw[if_pos (show(Value.ref T0 != Value.none)=true from by simp)]
    refine wpAny_bind (wpAny_field eT dT h3 ?_)
    rw[if_neg (show ¬ ((Value.none == rawInt L)=true)from by simp[rawInt])]
    refine wpAny_bind (wpAny_setField eT dT (Array.getElem?_eq_some_iff.mp h3).1 ?_)
    have oth:∀ b,b≠T0->(s.heap.update T0 (Obj.mapFields (·.setIfInBounds 3 Value.none))).get? b=s.heap.get? b:=λb hb'=>Heap.get?_update_other _ _ (Ne.symm hb')
    have nf:∀ b o,s.heap.get? b=some o->(∀ vs,o.data≠.fields vs)->b≠T0:=λb o eb hn z=>by rw[z,eT]at eb;cases eb;exact hn ts0 dT
    refine zom hfr (hl.of_keeps λb o eb hn=>⟨o,(oth b (nf b o eb hn)).trans eb,rfl⟩) hf ((oth e (Ne.symm neT)).trans he) hd hv λh' T oT ts k1 k2 e1 hT e2 hdT h3'=> ?_
    exact rest { s with heap:=s.heap.update T0 (Obj.mapFields (·.setIfInBounds 3 Value.none)) } [e,T0] h' T oT ts oe
      (λb o eb=>by
        by_cases z:b=T0
        ·exact .inr (by simp[z])
        ·exact .inl ((oth b z).trans eb))
      (Heap.size_after_update ..) (by simp)
      (λb hb'=>by
        rcases List.mem_cons.mp hb' with z | z
        ·subst z;exact⟨nb,fr,oe,vs,he,hd⟩
        ·rw[List.mem_singleton]at z;subst z;exact⟨nbT,frT,oT0,ts0,eT,dT⟩)
      hcls hdict hd hv k1 k2 e1 hT e2 hdT h3'
end
def Cx.bad(X:Cx)(pins:List (Addr × Obj)):Addr->Prop:=λa=>X.s₀.heap.get? a≠none\/∃ p∈X.pn++pins,p.1=a
structure XOk(X:Cx)(E:St->XK):Prop where
 po:PassesOwn (model X.prog X.w) X.A X.env X.xe
 ex:X.ex=[]
 calm:X.calm=true
 go:∀ (pins:List (Addr × Obj)) (σ:St) (H:Hp) (s:Shared) (e:Addr) (cls:Value),Inv X pins σ H s->Fly (X.bad pins) H s.heap e cls->E σ cls none H->X.xe (.ref e) s
section
variable{X:Cx}{pins:List (Addr × Obj)}{σ:St}{H:Hp}{s:Shared}
theorem Inv.notbad(I:Inv X pins σ H s)(hx:X.ex=[]){a:Addr}(h:s.heap.get? a=none):¬ X.bad pins a:=λz=>by
  rcases z with z | ⟨p,hp,rfl⟩
  · cases q:X.s₀.heap.get? a with
    | none=>exact z q
    | some o =>
      obtain⟨o',e⟩:=I.base.there a o q (by rw[hx];simp)
      rw[h]at e;cases e
  · have:=(I.pin p hp).1
    rw[h]at this;cases this
theorem zsy{h:Heap}{a:Addr}(z:h.objs.size<=a):h.get? a=none:=by
 cases q:h.get? a with
 | none=>rfl
 | some o=>exact absurd (Nat.lt_of_lt_of_le (Heap.lt_size q) z) (Nat.lt_irrefl _)
theorem Inv.noted{e:Addr}{cls:Value}{h':Heap}(I:Inv X pins σ H s)(N:zyn (frs X.stack) (X.bad pins) H e cls s.heap h'):Inv X pins σ H { s with heap:=h' }:=by
 obtain⟨⟨ch,hch,k1,k2⟩,_⟩:=N
 obtain⟨mL,⟨oL,esL,epL,hoL,dL,rL⟩,_⟩:=id I.loc
 have chne:∀ b∈ch,∀ o,s.heap.get? b=some o->∃ vs,o.data=.fields vs:=λb hb o eb=>by
  obtain⟨_,_,o',vs,e',d⟩:=hch b hb
  rw[eb]at e';cases e'
  exact⟨vs,d⟩
 have hL:X.env.locals∉ch:=λz=>by
  obtain⟨vs,d⟩:=chne _ z _ hoL
  rw[dL]at d;cases d
 refine I.stepN (g':=s.gens) (t':=s.toks) (d':=s.drawn) (ch:=ch) (λb hb=>⟨.inr ?_,λz=>hL (z ▸ hb),λx c ec z=> ?_,λp hp z=>(hch b hb).1 (.inr ⟨p,hp,z⟩)⟩)
  (λb o hbL hbf hbc eb _=>k1 b o eb hbc λz=>(List.mem_cons.mp (I.stkSub b z)).elim hbL hbf) (λb o _ _ hbc eb _=>k2 b o eb hbc) (λ_ _ _ _ n=>n) (λb o hbc eb=> ?_) (λ_ _ q=>q) (λ_ _ _ q=>q) (λb ps q=>⟨#[],by rw[q];simp⟩) (λm hm=> ?_) (λb o eb=> ?_) I.bare
 ·cases q:X.s₀.heap.get? b with
  | none=>rfl
  | some o=>exact absurd (.inl (by rw[q];simp)) (hch b hb).1
 ·obtain⟨v,oc,hoc,hd⟩:=I.cell x c ec
  obtain⟨vs,d⟩:=chne c (z ▸ hb) oc hoc
  rw[hd]at d;cases d
 ·obtain⟨sl,q⟩:=k2 b o eb hbc
  exact⟨_,q⟩
 ·obtain⟨o',es',ep',ho',r'⟩:=hm
  rw[hoL]at ho';cases ho'
  obtain⟨sl,q⟩:=k2 _ _ hoL hL
  exact⟨_,es',ep',q,r'⟩
 ·refine(I.hok b o eb).stay (λc u hc q=>k1 c u q ?_ ?_) (λ_ q=>q) λ_ _ q=>q
  ·intro z
   have fr:=(hch c z).2.1
   rcases hc with rfl | hc
   ·rw[eb]at fr;cases fr
   ·rw[hc]at fr;cases fr
  ·intro z
   have fr:=I.stkFree c z
   rcases hc with rfl | hc
   ·rw[eb]at fr;cases fr
   ·rw[hc]at fr;cases fr
def cxE(P:Program)(w:World):CXT:=λouter H s E e s'=>∃ (ea:Addr) (cls:Value) (H':Hp),e=.ref ea/\s'.os=s.os/\AllBare s'.gens/\Un (frs outer) [] H H' s.heap s'.heap/\HOk P w H' s'.heap/\Fly (λa=>s.heap.get? a≠none) H' s'.heap ea cls/\E cls none H'
theorem zxr{P:Program}{w:World}{outer:List Env}{H:Hp}{s:Shared}{e:Value}{s':Shared}(h:cxE P w outer H s (λ_ _ _=>False) e s'):False:=by
 obtain⟨_,_,_,_,_,_,_,_,_,f⟩:=h
 exact f
theorem XOk.passes{E:St->XK}(x:XOk X E):zgs (cxE X.prog X.w) X E:=λpins σ H s e s' I h=>by
  obtain⟨ea,cls,H',rfl,os,bare,un,hok,F,q⟩:=h
  refine x.go pins σ H' s' ea cls (I.call' (ch:=[]) os un hok bare λb z=>absurd z (by simp)) (F.mono λa z=> ?_) q
  rcases z with z | ⟨p,hp,rfl⟩
  · cases q0:X.s₀.heap.get? a with
    | none=>exact absurd q0 z
    | some o =>
      obtain⟨o',e⟩:=I.base.there a o q0 (by rw[x.ex];simp)
      rw[e];simp
  ·rw[(I.pin p hp).1];simp
theorem zmo{P:Program}{w:World}:zgs (cxE P w) X (λ_=>E0):=λ_ _ _ _ _ _ _ h=>(zxr h).elim
end
theorem zbj{P:Program}{w:World}{K:PySem.W.Frag}{mg:Str->Option Value}{base:Heap}{N:List Str}{qual:Str}{scope:Scope}{f:Addr}{cd:Value}{A:Around}{outer:List Env}{s:Shared}{H:Hp}{E:XK} :
  XOk (cxOf (cxE P w) P w K mg base N qual scope f cd A outer s H E) (λ_=>E) where
 po:=PassesOwn.leaving
 ex:=rfl
 calm:=rfl
 go:=λpins σ H' s' e cls I F q=>by
  have hfr:(A.deeper (envOfC qual scope s.heap.objs.size f cd)).frames=some (envOfC qual scope s.heap.objs.size f cd::outer):=I.ok.frames
  show wpAny _ _ (leaving _ _) _ _ _
  unfold leaving
  refine wpAny_bind (zsx hfr I.stack rfl F (λa z=>I.notbad rfl (zsy z)) (λa z=>I.hok.fresh z) λh' N=> ?_)
  have I':=I.noted N
  exact⟨e,cls,H',rfl,I'.os,I'.bare,I'.base,I'.hok,N.fly.mono λa z=>.inl z,q⟩
structure Exc(K:PySem.W.Frag)(C:Addr):Prop where
 ex:PySem.W.excIn K C [.type "ValueError",.type "Exception",.type "BaseException",.type "object"] "ValueError.__new__"=true
theorem Exc.obj{K:PySem.W.Frag}{C:Addr}{h:Heap}(x:Exc K C)(X:K.In h):∃ (tl:List Value) (N:Addr) (nm q:Str) (bs:List Value) (hdct:Bool) (sn:List Str) (sub:List Value) (ab:Bool) (col:Option Bool) (dd:Option Addr) (k0 k1 k2 k3 k5:Option Value) (mN:Str->Option Value),
  h.get? C=some (excClassObj nm q C N bs tl hdct sn sub ab col dd k0 k1 k2 k3 k5 "ValueError.__new__")/\h.Ns N mN/\mN "__init__"=none/\OwnTail h [.type "ValueError",.type "Exception",.type "BaseException",.type "object"] tl:=by
 have q:=x.ex
 unfold PySem.W.excIn at q
 split at q
 ·rename_i dd cd sl ho
  split at q
  ·rename_i C' bm k0 k1 k2 k3 n k5 hm hs
   simp only[Bool.and_eq_true,beq_iff_eq,Bool.not_eq_true']at q
   obtain⟨⟨⟨⟨⟨rfl,rfl⟩,hdel⟩,ht⟩,hok⟩,hni⟩:=q
   obtain⟨nm,bs,mro,ns,qn,hd,sn,sub,ab,col,del⟩:=cd
   dsimp only at hm hdel hok hni
   subst hm hdel
   obtain⟨l⟩:=sl
   simp only at hs
   subst hs
   exact⟨bm,ns,nm,qn,bs,hd,sn,sub,ab,col,dd,k0,k1,k2,k3,k5,_,X _ _ ho,.of_isNs (PySem.W.isNs_of_in X hok),PySem.W.nsMap_none_of_in X hok hni,PySem.W.tail_of_in X ht⟩
  ·cases q
 ·cases q
def zk7(C:Addr)(E:St->XK)(t:TA):TS:=λ_ σ H=>t σ H λvs H1=>vs.length<=sizeLine/\E σ (.ref C) none H1
section
variable{X:Cx}{E:St->XK}{C:Addr}{x:Str}{np cpos pos:Pos}{e:Expr}{es:List Expr}{t:TA}
theorem zhl(hx:XOk X E)(c:Exc X.K C)(hg:Gl X x)(hm:X.mg x=some (.ref C))(ha:PA X (e::es) t)(hdb:(x ==("__debug__":Str))=false:=by decide)
  (he:starEach (e::es) X.env=(false,eval e X.env)::starEach es X.env:=by rfl) (hpl:(backTo cpos (starEach es X.env)).any (·.1)=false:=by rfl) :
  PS X (.Raise (some (.Call (.Name x np) (e::es) [] cpos)) none pos) (zk7 C E t):=by
 intro pins s σ H D I h
 obtain⟨tl,N,nm,q,bs,hdct,sn,sub,ab,col,dd,k0,k1,k2,k3,k5,mN,hC,hN,hni,T⟩:=c.obj I.mod.kin
 have hpl2:(backTo cpos (starEach (e::es) X.env)).any (·.1)=false:=by
  rw[he]
  show(false || (backTo cpos (starEach es X.env)).any (·.1))=false
  rw[hpl];rfl
 refine wpAny_Raise_call_subT (C:=C) (nm:=nm) (q:=q) (N:=N) (bs:=bs) (bm:=tl) (hdct:=hdct) (sn:=sn) (sub:=sub) (ab:=ab) (col:=col) (dd:=dd) (k0:=k0) (k1:=k1) (k2:=k2) (k3:=k3) (k5:=k5)
  PySem.F.excBase_ValueError (mN:=mN) (T.hasType PySem.F.excBase_ValueError.hasBase) (I.ok.hd hx.calm) hpl2 hni (zmh I hg hm ⟨rfl,?_⟩ hdb)
 have hq:=ha cpos pins s σ H _ I h
 rw[he]at hq ⊢
 refine Calls.evalArgs_plain (thn hq λus s1 ⟨vs,H1,I1,r,hz,q1⟩=>⟨rfl,?_,I1.bk _ _ hC,hN.keeps I1.bk,T.keeps I1.bk,λh' ea hM=> ?_⟩)
 ·show us.length<=_
  rw[<-r.length];exact hz
 ·have I2:Inv X pins σ H1 { s1 with heap:=h' }:=I1.kept (t':=s1.toks) hM.keeps
  obtain⟨tt,h1,h2,h3⟩:=hM.there
  refine hx.go pins σ H1 _ ea (.ref C) I2 ⟨λz=>I1.notbad hx.ex hM.new z,I1.hok.nh hM.new,_,_,h1,rfl,rfl,rfl,.inl rfl⟩ q1
end
end L2
set_option linter.all false
set_option maxHeartbeats 4000000
namespace L2
open PySem PySem.Spec PyProof.Rows
section
variable(P:Program)(w:World)(K:PySem.W.Frag)(mg:Str->Option Value)(base:Heap)
structure Cal(k:Nat)(x:Str)(ps:List Str)(sp:Sp):Prop where
 ex:∃ (f:Addr) (fd:FuncData),FnOk P w K mg base (cxE P w) k f fd ps sp/\mg x=some (.ref f)/\PySem.W.keepIn K (.ref f)=true/\Binds K fd ps []
structure MCal(C:Addr)(k:Nat)(m:Str)(ps:List Str)(sp:Sp):Prop where
 ex:∃ (f:Addr) (fd:FuncData),FnOk P w K mg base (cxE P w) k f fd ps sp/\Meth K C m f/\Binds K fd ps []
structure NCal(C:Addr)(k:Nat)(x:Str)(ps:List Str)(sp:Sp):Prop where
 ex:∃ (f:Addr) (fd:FuncData),FnOk P w K mg base (cxE P w) k f fd ps sp/\Mk K C f/\mg x=some (.ref C)/\Binds K fd ps []
end
section
variable{X:Cx}{E:St->XK}{k:Nat}{x m:Str}{ps:List Str}{sp:Sp}{C:Addr}{p pos apos:Pos}{e o:Expr}{es:List Expr}{ta:TE}{t:TA}
theorem zel(c:Cal X.prog X.w X.K X.mg X.base k x ps sp)(hr:Room k X.A)(hp:zgs (cxE X.prog X.w) X E)(hg:Gl X x)(ha:PA X (e::es) t)(hdb:(x ==("__debug__":Str))=false:=by decide)
  (he:starEach (e::es) X.env=(false,eval e X.env)::starEach es X.env:=by rfl) (hpl:(backTo pos (starEach es X.env)).any (·.1)=false:=by rfl):PE X (.Call (.Name x p) (e::es) [] pos) (zke sp [] E t):=by
 obtain⟨f,fd,F,hm,hk,hb⟩:=c.ex
 exact zx7 F hr hg hm hk hb .nil hp ha hdb he hpl
theorem zax{pl:Sem Bool}(he:PE X o ta)(cl:Cls X.K C)(c:MCal X.prog X.w X.K X.mg X.base C k m ps sp)(hr:Room k X.A)(hp:zgs (cxE X.prog X.w) X E)(ha:PA X (e::es) t)
  (hst:starEach (e::es) X.env=(false,eval e X.env)::starEach es X.env:=by rfl) (hpl:(backTo pos (starEach es X.env)).any (·.1)=false:=by rfl)
  (ht:eval (.Call (.Attribute o m apos) (e::es) [] pos) X.env=(do
   let ov ← eval o X.env
   standAt apos.atName
   let (f,first) ← holding [ov] (getMethod ov m pl)
   callWith pos f first (backTo pos (starEach (e::es) X.env)) (backToKw pos (keywordEach [] X.env))):=by rfl):PE X (.Call (.Attribute o m apos) (e::es) [] pos) (zbq C m sp [] E ta t):=by
 obtain⟨f,fd,F,hm,hb⟩:=c.ex
 exact zx8 he cl hm F hr hb .nil hp ha hst hpl ht
theorem zce{pl:Sem Bool}(he:PE X o ta)(cl:Cls X.K C)(c:MCal X.prog X.w X.K X.mg X.base C k m ps sp)(hr:Room k X.A)(hp:zgs (cxE X.prog X.w) X E)
  (ht:eval (.Call (.Attribute o m apos) [] [] pos) X.env=(do
   let ov ← eval o X.env
   standAt apos.atName
   let (f,first) ← holding [ov] (getMethod ov m pl)
   callWith pos f first (backTo pos (starEach [] X.env)) (backToKw pos (keywordEach [] X.env))):=by rfl):PE X (.Call (.Attribute o m apos) [] [] pos) (zbq C m sp [] E ta tNil):=by
 obtain⟨f,fd,F,hm,hb⟩:=c.ex
 exact zv8 he cl hm F hr hb .nil hp ht
theorem zjn(c:NCal X.prog X.w X.K X.mg X.base C k x ps sp)(hr:Room (k+1) X.A)(hp:zgs (cxE X.prog X.w) X E)(hg:Gl X x)(ha:PA X (e::es) t)(hdb:(x ==("__debug__":Str))=false:=by decide)
  (he:starEach (e::es) X.env=(false,eval e X.env)::starEach es X.env:=by rfl) (hpl:(backTo pos (starEach es X.env)).any (·.1)=false:=by rfl):PE X (.Call (.Name x p) (e::es) [] pos) (zqa C sp [] E t):=by
 obtain⟨f,fd,F,M,hm,hb⟩:=c.ex
 exact zx9 M F hr hg hm hb .nil hp ha hdb he hpl
end
theorem Fun.okE{P:Program}{w:World}{K:PySem.W.Frag}{mg:Str->Option Value}{base:Heap}{x qual:Str}{st:Stmt}{f:Addr}{fd:FuncData}{N ps:List Str}{k:Nat}{sp:Sp}(F:Fun K x qual st f fd)(S:zav N ps (zaa st))(len:∀ vs H Q E,sp vs H Q E->vs.length=ps.length)
  (hbody:∀ (cdv:Value) (A:Around) (outer:List Env) (s:Shared) (H:Hp) (vs:List V) (Q:VK) (E:XK),Room k (A.deeper (envOfC qual (zaa st) s.heap.objs.size f cdv))->sp vs H Q E →
   ∃ t,PSs (cxOf (cxE P w) P w K mg base N qual (zaa st) f cdv A outer s H E) (zas st) t/\t { nx:=λ_ H'=>Q .non H',rt:=Q } (zby N vs) H):FnOk P w K mg base (cxE P w) (k+1) f fd ps sp:=by
 obtain⟨oc,od,kV,doc,pm,an,cdv,ct,osl,rfl,l,c⟩:=F.ex
 exact zaah l c S len λA outer s H vs Q E hr h=>hbody cdv A outer s H vs Q E hr h
def GV(mg:Str->Option Value)(x:Str)(v:V):Prop:=∃ u,mg x=some u/\RelV v u
theorem zaau{X:Cx}{x:Str}{v:V}{pos:Pos}(g:GV X.mg x v)(hg:Gl X x)(hd:(x ==("__debug__":Str))=false:=by decide):PE X (.Name x pos) (tC v):=by
 obtain⟨u,hm,r⟩:=g
 exact zx0 hg hm r hd
theorem zon{α :Type}(p: α ->Bool):∀ (l:List α) (i:Nat),(∀ x,l[i]? =some x->p x=false)->(l.eraseIdx i).find? p=l.find? p
  | [],_,_=>rfl
  | x::r,0,h=>by
    have:p x=false:=h x rfl
    simp[List.eraseIdx,List.find?,this]
  | x::r,i+1,h=>by
    rw[List.eraseIdx_cons_succ]
    simp only[List.find?_cons]
    rw[zon p r i λy hy=>h y (by simpa using hy)]
theorem zwk{v:Value}{x y:Str}(h:v.isStr x=true)(hxy:y≠x):v.isStr y=false:=by
  cases v with
  | str z t =>
    have e:z=x:=by simpa [Value.isStr]using h
    subst e
    simp only[Value.isStr]
    exact beq_eq_false_iff_ne.mpr (Ne.symm hxy)
  | _=>simp[Value.isStr]at h
theorem zaav {M:Model} {A:Around} {E:Value->Shared->Prop} {s:Shared} {a:Addr} {m:Str->Option Value} {name:Str} {Q:Bool->Shared->Prop} (hn:s.heap.Ns a m)
    (hQ:∀ h' m',h'.Ns a m'->(∀ y,y≠name->m' y=m y)->Heap.SameBut a s.heap h'->Q (m name).isSome { s with heap:=h' }):wpAny M A (nsDel a name) Q E s:=by
  obtain⟨o,es,ep,ho,hd,hk,hm⟩:=id hn
  have hno:es.any (·.refKey)=false:=by
    rw[Array.any_eq_false'];intro e' he';obtain⟨n',t',h'⟩:=hk e' he';simp[DictEntry.refKey,h']
  have hiff:(m name).isSome=es.any (·.key.isStr name):=by
    rw[<-hm name]
    simp only[nsFind,findBy,Option.isSome_map]
    obtain⟨l⟩:=es
    rw[Bool.eq_iff_iff]
    simp[List.find?_isSome]
  have hhas:nsHas name o=pure (es.any (·.key.isStr name)):=by
    rw[nsHas_eq];unfold nsHasByArray;rw[hd]
    show(if(es.any λx=>x.key.isStr name)=true then _ else _)=_
    generalize (es.any λx=>x.key.isStr name)=b'
    cases b'<;>simp[hno]
  unfold nsDel
  refine wpAny_bind (wpAny_loadPart ho ?_)
  rw[hhas]
  refine wpAny_bind (wpAny_pure ?_)
  rw[<-hiff]
  cases hmn:(m name).isSome
  · have z:=hQ s.heap m hn (λ_ _=>rfl) (.refl ..)
    rw[hmn]at z
    exact wpAny_pure z
  · refine wpAny_bind (wpAny_updatePart ho (wpAny_pure ?_))
    have key:∃ m',(s.heap.update a (Obj.dropName name)).Ns a m'/\∀ y,y≠name->m' y=m y:=by
      obtain⟨cl,d,dt,sl⟩:=o
      obtain rfl:dt=.dict es ep:=hd
      cases hi:es.findIdx? (·.key.isStr name)with
      | some i =>
        refine⟨_,⟨_,_,ep+1,Heap.get?_update_self _ ho (by simp only[Obj.dropName_eq,Obj.dropNameByArray,hi]<;>rfl),(by simp only[Obj.dropName_eq,Obj.dropNameByArray,hi]<;>rfl),hk.erase i,λ_=>rfl⟩,λy hy=> ?_⟩
        rw[<-hm y]
        unfold nsFind findBy
        obtain⟨l⟩:=es
        congr 1
        have hi':l.findIdx? (·.key.isStr name)=some i:=by simpa using hi
        obtain⟨hlt,hp,_⟩:=List.findIdx?_eq_some_iff_getElem.mp hi'
        show Array.find? _ (Array.eraseIdxIfInBounds ⟨l⟩ i)=_
        rw[<-Array.find?_toList,<-Array.find?_toList]
        have:(Array.eraseIdxIfInBounds ⟨l⟩ i).toList=l.eraseIdx i:=by
          rw[Array.eraseIdxIfInBounds_eq]
          split
          ·simp
          ·rename_i hz;exact absurd hlt (by simpa using hz)
        rw[this]
        refine zon _ l i λx hx=> ?_
        rw[List.getElem?_eq_getElem hlt]at hx
        cases hx
        exact zwk hp hy
      | none=>exact⟨m,⟨_,_,ep,Heap.get?_update_self _ ho (by simp only[Obj.dropName_eq,Obj.dropNameByArray,hi]<;>rfl),(by simp only[Obj.dropName_eq,Obj.dropNameByArray,hi]<;>rfl),hk,hm⟩,λ_ _=>rfl⟩
    obtain⟨m',hm',hy⟩:=key
    have z:=hQ _ m' hm' hy (Heap.SameBut.update ..)
    rw[hmn]at z
    exact z
theorem zjo{X:Cx}{pins:List (Addr × Obj)}{σ:St}{H:Hp}{s:Shared}{A:Around}{E:Value->Shared->Prop}{i:Nat}{n:Str}{pos:Pos}{Q:Unit->Shared->Prop}(I:Inv X pins σ H s)(hN:X.N.Nodup)(hi:X.N[i]? =some n)(hl:X.env.scope.names.lookup n=some .local)
  (h:∀ s',Inv X pins (σ.set i none) H s'->Q () s'):wpAny (model X.prog X.w) A (do bindName X.env n .none;unbindBehindTheSuite X.env n pos) Q E s:=by
 have hp:(X.env.scope.kind == .class || (X.env.scope.kind == .module && X.env.locals != X.env.globals))=false:=by rw[I.ok.kind];rfl
 have hk:X.env.kindOf n=some .local:=hl
 have hiσ:i<σ.length:=by rw[I.len];exact(List.getElem?_eq_some_iff.mp hi).1
 refine wpAny_bind (wpAny_bindName (zmd I hN hi (.inl hl) (show RelV .non Value.none from rfl) (λs1 I1=> ?_) (.inr hl)))
 unfold unbindBehindTheSuite
 refine wpAny_onRaise ?_
 unfold unbindName
 refine wpAny_bind (wpAny_point (wpAny_bind ?_))
 unfold deleteName
 simp only[hk,hp]
 rw[if_neg (by decide)]
 obtain⟨m,hn,hloc⟩:=id I1.loc
 have hmn:∃ u,m n=some u:=by
  obtain⟨u,_,l⟩:=hloc i n .non hi (by rw[List.getElem?_set_self hiσ]) (.inl hl)
  rcases l with⟨_,e⟩ | ⟨z,_⟩
  ·exact⟨u,e⟩
  ·rw[hk]at z;rcases z with z | z<;>cases z
 refine wpAny_bind (zaav hn λh' m' hn' hy hs=> ?_)
 obtain⟨u,hu⟩:=hmn
 rw[hu]
 simp only[Option.isSome_some,Bool.not_true,Bool.false_eq_true,if_false]
 refine wpAny_pure (wpAny_point (h _ ?_))
 have nL:∀ b o,X.s₀.heap.get? b=some o->b≠X.env.locals:=λb o e=>zg2 (Heap.lt_size e) I1.ok.above
 refine⟨I1.ok,I1.os,I1.bare,⟨λb o e n' hb hx=>(hs.2 b (nL b o e)).trans (I1.base.keep b o e n' hb hx),λb o e n' hb hx=> ?_,I1.base.free,λb o e hx=> ?_,I1.base.tups,I1.base.frzs,I1.base.tbls⟩,⟨m',hn',λj y v e1 e2 e3=> ?_⟩,λx c e=> ?_,I1.free,I1.freeC,λp hp'=> ?_,λb o e=> ?_,?_⟩
 ·obtain⟨sl,q⟩:=I1.base.slot b o e n' hb hx
  exact⟨sl,(hs.2 b (nL b o e)).trans q⟩
 ·obtain⟨o',q⟩:=I1.base.there b o e hx
  exact⟨o',(hs.2 b (nL b o e)).trans q⟩
 ·have hj:j≠i:=λz=>by
   subst z
   rw[List.getElem?_set_self hiσ]at e2
   cases e2
  rw[List.getElem?_set_ne (Ne.symm hj)]at e2
  obtain⟨u',r',l⟩:=hloc j y v e1 (by rw[List.getElem?_set_ne (Ne.symm hj)];exact e2) e3
  refine⟨u',r',?_⟩
  rcases l with⟨z,e⟩ | ⟨z,c,e,q⟩
  ·exact .inl ⟨z,by rw[hy y λz=>hj (zow hN e1 (z ▸ hi))];exact e⟩
  ·exact .inr ⟨z,c,e,q.sameBut hs (I1.cne y c e)⟩
 ·obtain⟨v,q⟩:=I1.cell x c e
  exact⟨v,q.sameBut hs (I1.cne x c e)⟩
 ·obtain⟨q1,q2,q3,q4⟩:=I1.pin p hp'
  exact⟨(hs.2 _ q3).trans q1,q2,q3,q4⟩
 ·refine(I1.hok b o e).stay (λc u' hc q=>(hs.2 c ?_).trans q) (λ_ q=>q) λ_ _ q=>q
  intro z
  have fr:=I1.free
  rw[<-z]at fr
  rcases hc with rfl | hc
  ·rw[e]at fr;cases fr
  ·rw[hc]at fr;cases fr
 ·rw[List.length_set];exact I.len
abbrev Cx.tri(X:Cx)(pn:List (Addr × Obj))(xe:Value->Shared->Prop):Cx:={ X with pn:=pn,xe:=xe }
abbrev Cx.hand(X:Cx)(e:Addr):Cx:={ X with A:=X.A.mark (some (.ref e)),calm:=false,xe:=λ_ _=>False }
section
variable{X:Cx}{pins:List (Addr × Obj)}{σ:St}{H:Hp}{s:Shared}
theorem Cx.Ok.tri{pn:List (Addr × Obj)}{xe:Value->Shared->Prop}(ok:X.Ok):(X.tri pn xe).Ok :=
 ⟨ok.mod,ok.kind,ok.glob,ok.blt,ok.above,ok.inj,ok.has,ok.cab,ok.hd,ok.frames,ok.stk,ok.exf,ok.bs,ok.bsz,ok.noex,ok.exfs,ok.funs,ok.frf⟩
theorem Inv.tri{xe:Value->Shared->Prop}(I:Inv X pins σ H s):Inv (X.tri (X.pn++pins) xe) [] σ H s :=
 ⟨I.ok.tri,I.os,I.bare,I.base,I.loc,I.cell,I.free,I.freeC,λp hp=>I.pin p (by simpa using hp),I.hok,I.len⟩
theorem Cx.Ok.untri{pn:List (Addr × Obj)}{xe:Value->Shared->Prop}(ok:(X.tri pn xe).Ok):X.Ok :=
 ⟨ok.mod,ok.kind,ok.glob,ok.blt,ok.above,ok.inj,ok.has,ok.cab,ok.hd,ok.frames,ok.stk,ok.exf,ok.bs,ok.bsz,ok.noex,ok.exfs,ok.funs,ok.frf⟩
theorem Inv.untri{pl:List (Addr × Obj)}{xe:Value->Shared->Prop}(I:Inv (X.tri (X.pn++pins) xe) pl σ H s):Inv X pins σ H s :=
 ⟨I.ok.untri,I.os,I.bare,I.base,I.loc,I.cell,I.free,I.freeC,λp hp=>I.pin p (List.mem_append_left _ hp),I.hok,I.len⟩
theorem Cx.Ok.hand{e:Addr}(ok:X.Ok):(X.hand e).Ok :=
 ⟨ok.mod,ok.kind,ok.glob,ok.blt,ok.above,ok.inj,ok.has,ok.cab,(λz=>nomatch z),ok.frames,ok.stk,ok.exf,ok.bs,ok.bsz,ok.noex,ok.exfs,ok.funs,ok.frf⟩
theorem Inv.hand{e:Addr}(I:Inv X pins σ H s):Inv (X.hand e) pins σ H s:=⟨I.ok.hand,I.os,I.bare,I.base,I.loc,I.cell,I.free,I.freeC,I.pin,I.hok,I.len⟩
theorem Inv.unhand{e:Addr}(ok:X.Ok)(I:Inv (X.hand e) pins σ H s):Inv X pins σ H s:=⟨ok,I.os,I.bare,I.base,I.loc,I.cell,I.free,I.freeC,I.pin,I.hok,I.len⟩
end
def znn(e:Addr)(cls:Value):Heap->Prop:=λh=>∃ oe vs,h.get? e=some oe/\oe.cls=cls/\oe.dict=none/\oe.data=.fields vs
abbrev TH:=Value->Ends->St->Hp->Prop
def zaaw:TH:=λ_ _ _ _=>False
def Ends.drop(D:Ends)(i:Nat):Ends:={ nx:=λσ H=>D.nx (σ.set i none) H,rt:=D.rt,bk:=λσ H=>D.bk (σ.set i none) H,ct:=λσ H=>D.ct (σ.set i none) H }
def zsz(p:Value->Option Bool)(i:Nat)(ts:TS)(rest:TH):TH:=λcls D σ H =>
 (p cls=some true/\∀ e,H e=none->ts (D.drop i) (σ.set i (some (.ref e))) (upd H e (.ext (znn e cls))))\/(p cls=some false/\rest cls D σ H)
def PH (X:Cx) (hs:List ExceptHandler) (th:TH):Prop :=
  ∀ (pins:List (Addr × Obj)) (s:Shared) (σ:St) (H:Hp) (D:Ends) (e:Addr) (cls:Value),X.ex=[]->Inv X pins σ H s->Fly (X.bad pins) H s.heap e cls->th cls D σ H →
    wpAny (model X.prog X.w) X.A (handleBy (.ref e) X.env hs) (SP X pins D) X.xe s
def PX (X:Cx) (t:Expr) (p:Value->Option Bool):Prop :=
  ∀ (pins:List (Addr × Obj)) (s:Shared) (σ:St) (H:Hp) (e:Addr) (cls:Value) (b:Bool) (Q:Bool->Shared->Prop) (E:Value->Shared->Prop),Inv X pins σ H s->Fly (X.bad pins) H s.heap e cls->p cls=some b →
    (∀ s',Inv X pins σ H s'->Fly (X.bad pins) H s'.heap e cls->Q b s')->wpAny (model X.prog X.w) (X.A.mark (some (.ref e))) (eval t X.env) (λc s1=>wpAny (model X.prog X.w) (X.A.mark (some (.ref e))) (excMatches (.ref e) c) Q E s1) E s
def tTry(tb:(St->XK)->TS)(th:TH):TS:=λD σ H=>tb (λσ' cls _ H'=>th cls D σ' H') D σ H
section
variable{X:Cx}{hs:List ExceptHandler}{h₀:ExceptHandler}{th:TH}{body:List Stmt}{tb:(St->XK)->TS}{pos:Pos}
theorem zaax:PH X [] zaaw:=λ_ _ _ _ _ _ _ _ _ _ h=>h.elim
theorem zaay{bad:Addr->Prop}{H:Hp}{h:Heap}{e:Addr}{cls:Value}{M:Model}(F:Fly bad H h e cls):PySem.W.Looks M h (typeOf (.ref e)) cls:=by
 obtain⟨_,_,oe,vs,h1,h2,_⟩:=F
 subst h2
 exact(PySem.W.Looks.ld h1).andThen .now
theorem zyo{x:Str}{np:Pos}{C:Value}(hg:Gl X x)(hm:X.mg x=some C)(hd:(x ==("__debug__":Str))=false:=by decide):PX X (.Name x np) (λcls=>PySem.W.exmOne X.K cls C):=by
 intro pins s σ H e cls b Q E I F hp h
 have I2:Inv (X.hand e) pins σ H s:=I.hand
 refine zmh (X:=X.hand e) I2 hg hm ?_ hd
 exact PySem.W.exm_one I.kIn (zaay F) hp _ _ _ s (λ_ _ z=>z) (h s I F)
theorem zwl{M:Model}{A:Around}{E:Value->Shared->Prop}{s:Shared}{bad:Addr->Prop}{H:Hp}{fr:List Addr}{e:Addr}{cls:Value}{Q:Unit->Shared->Prop}(F:Fly bad H s.heap e cls)
  (h:∀ h',zyn fr bad H e cls s.heap h'->Q () { s with heap:=h' }):wpAny M A (setFlight (.ref e) none) Q E s:=by
 have F0:=F
 obtain⟨nb,frr,oe,vs,he,hcls,hdict,hd,htb⟩:=F
 unfold setFlight
 rcases htb with h1 | ⟨T,oT,ts,h1,nbT,frT,neT,eT,dT,h3⟩
 ·refine wpAny_bind (wpAny_field he hd h1 ?_)
  rw[if_neg (by decide)]
  exact wpAny_pure (h s.heap ⟨⟨[],(λb hb=>nomatch hb),λb o eb _ _=>eb,λb o eb _=>⟨o.slots,eb⟩⟩,F0⟩)
 ·refine wpAny_bind (wpAny_field he hd h1 ?_)
  rw[if_pos (show(Value.ref T != Value.none)=true from by simp)]
  have hs3:3<ts.size:=(Array.getElem?_eq_some_iff.mp h3).1
  refine wpAny_setField eT dT hs3 (h _ ?_)
  have oth:∀ b,b≠T->(s.heap.update T (Obj.mapFields (·.setIfInBounds 3 ((none:Option Addr).elim Value.none λf=>rawInt f)))).get? b=s.heap.get? b:=λb hb'=>Heap.get?_update_other _ _ (Ne.symm hb')
  refine⟨⟨[T],λb hb=> ?_,λb o eb hb _=>(oth b λz=>hb (by simp[z])).trans eb,λb o eb hb=>⟨o.slots,(oth b λz=>hb (by simp[z])).trans eb⟩⟩,nb,frr,oe,vs,(oth e (Ne.symm neT)).trans he,hcls,hdict,hd,.inr ⟨T,_,_,h1,nbT,frT,neT,Heap.get?_update_self _ eT (Obj.isFreed_of_fields (Obj.data_mapFields dT _)),Obj.data_mapFields dT _,by simp[hs3]⟩⟩
  rw[List.mem_singleton]at hb
  subst hb
  exact⟨nbT,frT,oT,ts,eT,dT⟩
theorem SP.unhand{pins:List (Addr × Obj)}{D:Ends}{e:Addr}{f:Flow}{s:Shared}(ok:X.Ok)(h:SP (X.hand e) pins D f s):SP X pins D f s:=by
 cases f with
 | next=>obtain⟨σ1,H1,I1,q⟩:=h;exact⟨σ1,H1,I1.unhand ok,q⟩
 | brk=>obtain⟨σ1,H1,I1,q⟩:=h;exact⟨σ1,H1,I1.unhand ok,q⟩
 | cont=>obtain⟨σ1,H1,I1,q⟩:=h;exact⟨σ1,H1,I1.unhand ok,q⟩
 | ret u=>obtain⟨v,σ1,H1,I1,r,q⟩:=h;exact⟨v,σ1,H1,I1.unhand ok,r,q⟩
theorem zuz {t:Expr} {n:Str} {i:Nat} {b₀:Stmt} {suite:List Stmt} {hp:Pos} {p:Value->Option Bool} {ts:TS} {rest:List ExceptHandler} {tr:TH} (hN:X.N.Nodup) (hi:X.N[i]? =some n) (hl:X.env.scope.names.lookup n=some .local) (ht:PX X t p)
    (hsu:∀ e,PSs (X.hand e) (b₀::suite) ts) (hr:PH X rest tr):PH X (.ExceptHandler (some t) (some n) (b₀::suite) hp::rest) (zsz p i ts tr):=by
  intro pins s σ H D e cls hx I F h
  have hmain:∃ b,p cls=some b/\(b=true->∀ e,H e=none->ts (D.drop i) (σ.set i (some (.ref e))) (upd H e (.ext (znn e cls))))/\(b=false->tr cls D σ H):=by
    rcases h with⟨h1,h2⟩ | ⟨h1,h2⟩
    ·exact⟨true,h1,λ_=>h2,λz=>nomatch z⟩
    ·exact⟨false,h1,(λz=>nomatch z),λ_=>h2⟩
  obtain⟨b,hp',hT,hF⟩:=hmain
  refine wpAny_handleBy_cons (codeAny_handlers_test (ht pins s σ H e cls b _ _ I F hp' λs' I' F'=> ?_)) (by intro z;cases z)
  cases b with
  | false=>exact hr pins s' σ H D e cls hx I' F' (hF rfl)
  | true =>
    refine codeAny_handlers_suite_as (zwl (fr:=frs X.stack) F' λh' N=> ?_)
    have I2:=I'.noted N
    obtain⟨nb,fr,oe,vs,he,hcls,hdict,hd,_⟩:=N.fly
    have I3:Inv X pins σ (upd H e (.ext (znn e cls))) { s' with heap:=h' }:=by
      have hs0:X.s₀.heap.get? e=none:=by
        cases q:X.s₀.heap.get? e with
        | none=>rfl
        | some o=>exact absurd (.inl (by rw[q];simp)) nb
      have ltH:∀ b o,H b=some o->b≠e:=λb o eb z=>by rw[z,fr]at eb;cases eb
      refine⟨I2.ok,I2.os,I2.bare,⟨I2.base.keep,I2.base.slot,λb o eb n' hx'=> ?_,I2.base.there,λb xs eb=> ?_,λb o u eb=> ?_,λb ps eb=> ?_⟩,I2.loc,I2.cell,?_,λx c ec=> ?_,λp hp=> ?_,I2.hok.track fr ?_,I2.len⟩
      ·rw[zah (λz=>by rw[z,hs0]at eb;cases eb)];exact I2.base.free b o eb n' hx'
      ·rw[zah (ltH _ _ (I2.base.tups b xs eb))];exact I2.base.tups b xs eb
      ·rw[zah (ltH _ _ (I2.base.frzs b o u eb))];exact I2.base.frzs b o u eb
      · obtain⟨m,q⟩:=I2.base.tbls b ps eb
        exact⟨m,by rw[zah (ltH _ _ q)];exact q⟩
      · obtain⟨m,⟨oL,es,ep,hoL,dL,_⟩,_⟩:=I2.loc
        rw[zah (λz=>by rw[z]at hoL;rw[show h'.get? e=some oe from he]at hoL;cases hoL;rw[hd]at dL;cases dL)]
        exact I2.free
      · obtain⟨v,oc,hoc,hdc⟩:=I2.cell x c ec
        rw[zah (λz=>by rw[z]at hoc;rw[show h'.get? e=some oe from he]at hoc;cases hoc;rw[hd]at hdc;cases hdc)]
        exact I2.freeC x c ec
      · obtain⟨q1,q2,q3⟩:=I2.pin p hp
        refine⟨q1,?_,q3⟩
        rw[zah (λz=>nb (.inr ⟨p,hp,z⟩))];exact q2
      · refine⟨⟨oe,vs,he,hcls,hdict,hd⟩,⟨oe,he⟩,λh1 h2 hq k=> ?_⟩
        obtain⟨o1,v1,z1,z2⟩:=hq
        exact⟨o1,v1,k _ z1,z2⟩
    refine zmd I3 hN hi (.inl hl) (show RelV (.ref e) (.ref e)from rfl) (λs4 I4=> ?_) (.inr hl)
    refine wpAny_mono (hsu e pins s4 _ _ (D.drop i) I4.hand (hT rfl e fr)) (λf s5 h5=> ?_) λ_ _ z=>z.elim
    have h6:=h5.unhand I.ok
    show wpAny _ _ (do bindName X.env n .none;unbindBehindTheSuite X.env n hp) _ _ _
    cases f with
    | next =>
      obtain⟨σ1,H1,I1,q⟩:=h6
      exact zjo I1 hN hi hl λs7 I7=>⟨_,H1,I7,q⟩
    | brk =>
      obtain⟨σ1,H1,I1,q⟩:=h6
      exact zjo I1 hN hi hl λs7 I7=>⟨_,H1,I7,q⟩
    | cont =>
      obtain⟨σ1,H1,I1,q⟩:=h6
      exact zjo I1 hN hi hl λs7 I7=>⟨_,H1,I7,q⟩
    | ret u =>
      obtain⟨v,σ1,H1,I1,r,q⟩:=h6
      exact zjo I1 hN hi hl λs7 I7=>⟨v,_,H1,I7,r,q⟩
theorem zaaz(hx:X.ex=[])(hcalm:X.calm=true)(hst:X.stack=X.env::X.outer)(hfr:X.env.frame=some X.env.locals)(hb:∀ (E:St->XK) (pn:List (Addr × Obj)) (xe:Value->Shared->Prop),XOk (X.tri pn xe) E->PSs (X.tri pn xe) body (tb E))(hh:PH X (h₀::hs) th) :
    PS X (.Try body (h₀::hs) [] [] pos) (tTry tb th):=by
  intro pins s σ H D I h
  refine wpAny_Try_except ?_
  let xe:Value->Shared->Prop:=λe s₁=>wpAny (model X.prog X.w) X.A (noteFrame e X.env) (λ_ s₂=>wpAny (model X.prog X.w) X.A (setFlight e none) (λ_ s₃=>wpAny (model X.prog X.w) X.A (handleBy e X.env (h₀::hs)) (SP X pins D) X.xe s₃) X.xe s₂) X.xe s₁
  have xok:XOk (X.tri (X.pn++pins) xe) (λσ' cls _ H'=>th cls D σ' H'):=by
    refine⟨PassesOwn.looking,hx,hcalm,λpl σ' H' s' e cls I' F' q=> ?_⟩
    have Iu:=I'.untri
    refine zsx (hst ▸ Iu.ok.frames) (hst ▸ Iu.stack) hfr F' (λa z=>I'.notbad hx (zsy z)) (λa z=>I'.hok.fresh z) λh' N=> ?_
    rw[<-hst]at N
    have I2:Inv (X.tri (X.pn++pins) xe) pl σ' H' { s' with heap:=h' }:=I'.noted N
    exact hh pins _ σ' H' D e cls hx I2.untri (N.fly.mono λa z=>by
      rcases z with z | ⟨p,hp,z⟩
      ·exact .inl z
      ·exact .inr ⟨p,List.mem_append_left _ hp,z⟩) q
  refine wpAny_mono (hb _ _ xe xok [] s σ H D I.tri h) (λf s1 hs1=> ?_) λ_ _ z=>z
  cases f with
  | next =>
    obtain⟨σ1,H1,I1,q⟩:=hs1
    exact wpAny_execs_nil ⟨σ1,H1,I1.untri,q⟩
  | brk=>obtain⟨σ1,H1,I1,q⟩:=hs1;exact⟨σ1,H1,I1.untri,q⟩
  | cont=>obtain⟨σ1,H1,I1,q⟩:=hs1;exact⟨σ1,H1,I1.untri,q⟩
  | ret u=>obtain⟨v,σ1,H1,I1,r,q⟩:=hs1;exact⟨v,σ1,H1,I1.untri,r,q⟩
end
end L2
set_option linter.all false
set_option maxHeartbeats 4000000
namespace L2
open PySem PySem.Spec PyProof.Rows
mutual
inductive Rep(K:PySem.W.Frag)(H:Hp):V->PyData->Prop
 | non:Rep K H .non .none
 | bl (b:Bool):Rep K H (.bl b) (.bool b)
 | int (i:Int):Rep K H (.int i) (.int i)
 | str (x:Str):Rep K H (.str x) (.str x)
 | lst {a:Addr} {xs:List V} {ds:List PyData}:SqL K H a xs->RepAll K H xs ds->Rep K H (.ref a) (.list ds)
 | tup {a:Addr} {xs:List V} {ds:List PyData}:SqT K H a xs->RepAll K H xs ds->Rep K H (.ref a) (.tuple ds)
inductive RepAll(K:PySem.W.Frag)(H:Hp):List V->List PyData->Prop
 | nil:RepAll K H [] []
 | cons {v:V} {d:PyData} {vs:List V} {ds:List PyData}:Rep K H v d->RepAll K H vs ds->RepAll K H (v::vs) (d::ds)
end
section
variable{X:Cx}{pins:List (Addr × Obj)}{σ:St}{H:Hp}{s:Shared}
mutual
theorem Rep.reads(I:Inv X pins σ H s):∀ {v:V} {d:PyData} {u:Value},Rep X.K H v d->RelV v u->∃ as,Reads s.heap u d as
  | _,_,_,.non,r=>by cases (show _=Value.none from r);exact⟨_,.none⟩
  | _,_,_,.bl b,r=>by cases (show _=Value.bool b from r);exact⟨_,.bool b⟩
  | _,_,_,.int i,r=>by obtain⟨t,e⟩:=(show ∃ t,_=Value.int i t from r);cases e;exact⟨_,.int i t⟩
  | _,_,_,.str x,r=>by obtain⟨t,e⟩:=(show ∃ t,_=Value.str x t from r);cases e;exact⟨_,.str x t⟩
  | _,_,_,.lst (a:=a) h hr,r=>by
    cases (show _=Value.ref a from r)
    obtain⟨its,rv,p,_⟩:=I.list h
    obtain⟨as,q⟩:=RepAll.reads I hr rv
    obtain⟨o,e1,e2,n,e3⟩:=p.isList
    exact⟨_,.list e1 e2 e3 q⟩
  | _,_,_,.tup (a:=a) h hr,r=>by
    cases (show _=Value.ref a from r)
    obtain⟨its,rv,p,_⟩:=I.tuple h
    obtain⟨as,q⟩:=RepAll.reads I hr rv
    obtain⟨o,e1,e2,n,e3⟩:=p
    exact⟨_,.tuple e1 e2 e3 q⟩
theorem RepAll.reads(I:Inv X pins σ H s):∀ {vs:List V} {ds:List PyData} {us:List Value},RepAll X.K H vs ds->Vals vs us->∃ as,ReadsAll s.heap us ds as
  | _,_,_,.nil,.nil=>⟨_,.nil⟩
  | _,_,_,.cons h hr,.cons r rr=>by
    obtain⟨as,q⟩:=Rep.reads I h r
    obtain⟨bs,q2⟩:=RepAll.reads I hr rr
    exact⟨_,.cons q q2⟩
end
end
abbrev shp(d:PyData):Prop:=PySem.SeqAt.shaped d=true
def rEqA(K:PySem.W.Frag):R2:=λx y H Q=>if scal x y=true then Q (.bl (decide (x=y))) H else ∃ d e,Rep K H x d/\Rep K H y e/\shp d/\shp e/\Q (.bl (PyData.eqv d e)) H
def rNeA(K:PySem.W.Frag):R2:=λx y H Q=>if scal x y=true then Q (.bl (!decide (x=y))) H else ∃ d e,Rep K H x d/\Rep K H y e/\shp d/\shp e/\Q (.bl (!PyData.eqv d e)) H
section
variable{X:Cx}
theorem zxs(hu:X.A.units+64<cLine):OpR X (compareOp .Eq) (rEqA X.K):=by
 intro pins s σ H x y v u Q I rx ry h
 unfold rEqA at h
 split at h
 ·rename_i hs
  exact zacd pins s σ H x y v u Q I rx ry ⟨hs,h⟩
 ·obtain⟨d,e,rd,re,sd,se,q⟩:=h
  obtain⟨as,ra⟩:=rd.reads I rx
  obtain⟨bs,rb⟩:=re.reads I ry
  exact eq_dataH ra rb sd se hu ⟨.bl _,H,I,rfl,q⟩
theorem zmp(hu:X.A.units+64<cLine):OpR X (compareOp .NotEq) (rNeA X.K):=by
 intro pins s σ H x y v u Q I rx ry h
 unfold rNeA at h
 split at h
 ·rename_i hs
  exact zace pins s σ H x y v u Q I rx ry ⟨hs,h⟩
 ·obtain⟨d,e,rd,re,sd,se,q⟩:=h
  obtain⟨as,ra⟩:=rd.reads I rx
  obtain⟨bs,rb⟩:=re.reads I ry
  exact ne_dataH ra rb sd se hu ⟨.bl _,H,I,rfl,q⟩
def zu0(K:PySem.W.Frag):R2:=λx y H Q=>∃ a b ys,x=.ref a/\y=.ref b/\SqT K H a []/\SqT K H b ys/\Q (.ref b) H
theorem zwm:OpR X (binaryOp .Add) (zu0 X.K):=by
 intro pins s σ H x y v u Q I rx ry h
 obtain⟨a,b,ys,rfl,rfl,ha,hb,q⟩:=h
 cases rx
 cases ry
 obtain⟨its,r1,⟨⟨c1,c2,c3,c4⟩,e1,e2,n1,e3⟩,_⟩:=I.tuple ha
 obtain⟨its2,r2,⟨⟨d1,d2,d3,d4⟩,f1,f2,n2,f3⟩,_⟩:=I.tuple hb
 obtain rfl:c1=_:=e2
 obtain rfl:c3=_:=e3
 obtain rfl:d1=_:=f2
 obtain rfl:d3=_:=f3
 cases r1
 exact concat_meets ⟨_,e1,rfl⟩ ⟨_,f1,rfl⟩ noFill_tuple_add seq_tuple_add PySem.F.slot_tuple_add PySem.F.entry_tuple_add (PySem.F.args_tuple_add_2 _ _) (tuple_addW0 a b #[] its2.toArray n1 n2 c2 d2 c4 d4 rfl) ⟨e1,f1,.ref b,H,I,rfl,q⟩
def ze4(K:PySem.W.Frag):R2:=λx y H Q=>match x,y with
 | .int i,.int j=>Q (.int (i+j)) H
 | .str i,.str j=>i.length+j.length<=sizeLine/\Q (.str (i++j)) H
 | .ref _,.ref _=>rCat x y H Q\/zyb K x y H Q\/zu0 K x y H Q
 | _,_=>False
theorem zct:OpR X (binaryOp .Add) (ze4 X.K):=by
 intro pins s σ H x y v u Q I rx ry h
 cases x<;>cases y<;>simp only[ze4]at h
 ·exact zaae pins s σ H _ _ v u Q I rx ry ⟨_,_,rfl,rfl,h⟩
 ·exact ztf pins s σ H _ _ v u Q I rx ry ⟨_,_,rfl,rfl,h⟩
 ·rcases h with h | h
  ·exact zaam pins s σ H _ _ v u Q I rx ry h
  rcases h with h | h
  ·exact zyc pins s σ H _ _ v u Q I rx ry h
  ·exact zwm pins s σ H _ _ v u Q I rx ry h
def rLtA:R2:=λx y H Q=>match x,y with
 | .int i,.int j=>Q (.bl (decide (i<j))) H
 | .str i,.str j=>Q (.bl (decide (i.cps.toList<j.cps.toList))) H
 | _,_=>False
def rLeA:R2:=λx y H Q=>match x,y with
 | .int i,.int j=>Q (.bl (decide (i<=j))) H
 | .str i,.str j=>Q (.bl (!decide (j.cps.toList<i.cps.toList))) H
 | _,_=>False
end
end L2
set_option linter.all false
set_option maxRecDepth 100000
set_option maxHeartbeats 4000000
namespace L2
open PySem PySem.Spec PyProof.Rows
theorem zlh:fillsNumberSlot (.type "tuple") "mul"=pure false :=
 PySem.fillsNumberSlot_seq (id:="tuple.__mul__") (r:=some (.builtin "tuple.__rmul__")) F.slot_tuple_mul.lookup (by decide +kernel) F.slot_tuple_rmul.lookup (by decide +kernel)
theorem zqj:seqRepeat? (.type "tuple")=pure (some (.builtin "tuple.__mul__")):=by
 unfold seqRepeat?
 rw[PySem.seqSlot_of (T:="tuple") (name:="__mul__") (id:="tuple.__mul__") F.slot_tuple_mul.lookup (by decide +kernel),PySem.seqSlot_of (T:="tuple") (name:="__rmul__") (id:="tuple.__rmul__") F.slot_tuple_rmul.lookup (by decide +kernel)]
 rfl
theorem zno(a:Int)(t:Tok)(l:Addr)(items:Array Value)(dd:Option Addr)(n:Nat)(sl:Array (Option Value)) :
  Meets (Builtin.«int.__rmul__» ⟨[.int a t,.ref l],[]⟩) (λ_ R s=>s.heap.get? l=some ⟨.type "tuple",dd,.seq items n,sl⟩/\R (.ok (.ret Value.notImplemented)) s) :=
 .of_wp λprog w A R s h=>by obtain⟨hp,g,d,tk,os⟩:=s;obtain⟨hl,h⟩:=h;wp_walk;exact⟨_,rfl,h⟩
theorem zo3(l:Addr)(items:Array Value)(dd:Option Addr)(n:Nat)(sl:Array (Option Value))(x:Int)(u:Tok)(h1:1<x)(h2:x<2 ^ 63)(hne:items.isEmpty=false)(hz:items.size * x.toNat<=sizeLine) :
  Meets (Builtin.«tuple.__mul__» ⟨[.ref l,.int x u],[]⟩) (λ_ R s=>s.heap.get? l=some ⟨.type "tuple",dd,.seq items n,sl⟩ ∧
   R (.ok (.ret (Value.ref s.heap.objs.size))) { s with heap:=s.heap.push { cls:=Value.type "tuple",data:=Data.seq (List.foldl (λx1 x2=>x1++x2) #[] (List.replicate x.toNat items)) } }) :=
 .of_wp λprog w A R s h=>by
  obtain⟨hp,g,d,tk,os⟩:=s;obtain⟨hl,h⟩:=h
  have hsl:(sizeLine:Nat)<=(2 ^ 63 - 1) / 8:=by decide
  have hlen:(List.foldl (λx1 x2=>x1++x2) #[] (List.replicate x.toNat items)).size<=sizeLine:=by
   have:=zjk items.toList x.toNat []
   simp only[List.nil_append,Array.toArray_toList]at this
   rw[this]
   simp only[List.size_toArray,List.length_flatten,List.map_replicate,List.sum_replicate_nat,Array.length_toList]
   rw[Nat.mul_comm];exact hz
  have hx:∃ N:Nat,(items.size:Int) * x=(N:Int)/\N<=sizeLine:=⟨items.size * x.toNat,by rw[Int.natCast_mul,Int.toNat_of_nonneg (by omega)],hz⟩
  obtain⟨N,hx,hN⟩:=hx
  unfold Builtin.«tuple.__mul__»
  wp_walk
  refine wpAny_ite_false (by simp;omega) ?_
  wp_walk
  refine wpAny_ite_false (by simp only[hne,Bool.false_or];simp;omega) ?_
  refine wpAny_ite_false (by simp only[hne,Bool.or_false];simp;omega) ?_
  refine wpAny_ite_false (by rw[hx];exact decide_eq_false (by omega)) ?_
  refine wpAny_ite_false (by rw[hx];unfold Builtin.Tuple.tupleTooMany;simp;omega) ?_
  wp_walk
  exact⟨_,rfl,h⟩
theorem zo4(l:Addr)(items:Array Value)(dd:Option Addr)(n:Nat)(sl:Array (Option Value))(u:Tok) :
  Meets (Builtin.«tuple.__mul__» ⟨[.ref l,.int 1 u],[]⟩) (λ_ R s=>s.heap.get? l=some ⟨.type "tuple",dd,.seq items n,sl⟩/\R (.ok (.ret (Value.ref l))) s) :=
 .of_wp λprog w A R s h=>by
  obtain⟨hp,g,d,tk,os⟩:=s;obtain⟨hl,h⟩:=h
  unfold Builtin.«tuple.__mul__»
  wp_walk
  exact⟨_,rfl,h⟩
def zyp(K:PySem.W.Frag):R2:=λx y H Q=>∃ a k xs,x=.ref a/\y=.int k/\SqT K H a xs/\xs≠[]/\1<=k/\k<2 ^ 63/\xs.length * k.toNat<=sizeLine ∧
 (k=1->Q (.ref a) H)/\(k≠1->∀ p,H p=none->Q (.ref p) (upd H p (.tup (List.replicate k.toNat xs).flatten)))
section
variable{X:Cx}
theorem Inv.tnew{pins:List (Addr × Obj)}{σ:St}{H:Hp}{s:Shared}{ys:List V}{its:List Value}(I:Inv X pins σ H s)(hv:Vals ys its)(hz:ys.length<=sizeLine) :
  Inv X pins σ (upd H s.heap.objs.size (.tup ys)) { s with heap:=s.heap.push { cls:=.type "tuple",data:=.seq its.toArray } } :=
 I.laid (t':=s.toks) (λ_ _ q=>Heap.get?_push_of_some _ q) (Nat.le_refl _) ⟨hz,its,hv,_,Heap.get?_push_size _ rfl,rfl,0,rfl⟩
theorem zyq:OpR X (binaryOp .Mult) (zyp X.K):=by
 intro pins s σ H x y v u Q I rx ry h
 obtain⟨a,k,xs,rfl,rfl,hx,hne,h1,h2,hz,q1,q2⟩:=h
 cases rx
 obtain⟨t,rfl⟩:=ry
 obtain⟨its,r,⟨⟨c1,c2,c3,c4⟩,e1,e2,n,e3⟩,_⟩:=I.tuple hx
 obtain rfl:c1=_:=e2
 obtain rfl:c3=_:=e3
 have hl:=r.length
 have he:its.toArray.isEmpty=false:=by
  cases its with
  | nil=>exact absurd (List.length_eq_zero_iff.mp hl) hne
  | cons b t=>rfl
 refine wpAny_binaryOp_repeat_ref (T:="tuple") (U:="int") (by decide) ⟨_,e1,rfl⟩ (λs'=>typeIs_int s' k t) zlh F.fills_int_mul F.slot_int_rmul zqj F.slot_int_index.lookup
  (call_meets F.slot_int_rmul (typeIs_int s k t) F.entry_int_rmul (F.args_int_rmul_2 _ _) (zno k t a its.toArray c2 n c4) ⟨e1,rfl,⟨_,e1,rfl⟩,?_⟩)
 by_cases hk:k=1
 ·subst hk
  exact call_meets F.slot_tuple_mul ⟨_,e1,rfl⟩ F.entry_tuple_mul (F.args_tuple_mul_2 _ _) (zo4 a its.toArray c2 n c4 t) ⟨e1,.ref a,H,I,rfl,q1 rfl⟩
 ·refine call_meets F.slot_tuple_mul ⟨_,e1,rfl⟩ F.entry_tuple_mul (F.args_tuple_mul_2 _ _) (zo3 a its.toArray c2 n c4 k t (by omega) h2 he (by rw[List.size_toArray,<-hl];exact hz)) ⟨e1,?_⟩
  have f0:=zjk its k.toNat []
  rw[List.nil_append]at f0
  rw[f0]
  exact⟨.ref _,_,I.tnew (r.rep k.toNat) (by rw[zun,Nat.mul_comm];exact hz),rfl,q2 hk _ I.fresh⟩
abbrev zacl:R2:=rI0 λi j=>.int (i - j)
abbrev zli:R2:=rI (λ_ j=>0<j) λi j=>.int (i % j)
abbrev zqk:R2:=rI CDiv λi j=>.int (i / j)
abbrev zacm:R2:=rI CPow λi j=>.int (i ^ j.toNat)
abbrev zacn:V->Hp->VK->Prop:=rU λi=>.int (-i)
abbrev zaa0:TIp:=ipI λi j=>i+j
def repS(z:Str)(k:Int):Str:=if k<1 then Str.empty else if(k == 1 || z.length == 0)=true then z else⟨(List.replicate k.toNat z.cps).foldl (· ++·) #[]⟩
theorem zyr(z:Str)(k:Nat):(Str.mk ((List.replicate k z.cps).foldl (· ++·) #[])).length=k * z.length:=by
 have e:∀ (m:Nat) (acc:Array Nat),((List.replicate m z.cps).foldl (· ++·) acc).size=acc.size+m * z.cps.size:=λm=>by
  induction m with
  | zero=>intro acc;simp
  | succ m ih=>intro acc;rw[List.replicate_succ,List.foldl_cons,ih,Array.size_append,Nat.succ_mul];omega
 have:=e k #[]
 simpa [Str.length]using this
def zaco:R2:=λx y H Q=>∃ z k,x=.str z/\y=.int k/\0<=k/\k<=1000/\z.length<=1000/\Q (.str (repS z k)) H
theorem zys:OpR X (binaryOp .Mult) zaco:=by
  intro pins s σ H x y v u Q I rx ry h
  obtain⟨z,k,rfl,rfl,h1,h2,h3,q⟩:=h
  obtain⟨t,rfl⟩:=rx
  obtain⟨t',rfl⟩:=ry
  refine PySem.P.mul_str (by simp;omega) (λa _=> ?_) (λa _=> ?_) ?_
  · have:(1000:Int)<=(2 ^ 63 - 1) / k:=(Int.le_ediv_iff_mul_le (by omega)).mpr (by omega)
    omega
  · have h4:z.length * k.toNat<=1000 * 1000:=Nat.mul_le_mul h3 (by omega)
    have h5:(1000 * 1000:Nat)<=sizeLine:=by decide
    unfold Builtin.Str.tooLong
    exact decide_eq_false (by omega)
  · unfold repS at q
    split
    · rename_i c
      rw[if_pos c]at q
      exact⟨by show(0:Nat)<=sizeLine;omega,.str _,H,I.tok _,⟨_,rfl⟩,q⟩
    · rename_i c
      rw[if_neg c]at q
      split
      · rename_i d
        rw[if_pos d]at q
        exact⟨.str _,H,I,⟨_,rfl⟩,q⟩
      · rename_i d
        rw[if_neg d]at q
        exact⟨by rw[zyr];have:=Nat.mul_le_mul (show k.toNat<=1000 by omega) h3;show _<=2 ^ 24;omega,.str _,H,I.tok _,⟨_,rfl⟩,q⟩
def zgt(K:PySem.W.Frag):R2:=λx y H Q=>match x,y with
 | .int i,.int j=>CMul i j/\Q (.int (i * j)) H
 | .str z,.int k=>0<=k/\k<=1000/\z.length<=1000/\Q (.str (repS z k)) H
 | .ref _,.int _=>rRep x y H Q\/zyp K x y H Q
 | _,_=>False
theorem zeg:OpR X (binaryOp .Mult) (zgt X.K):=by
 intro pins s σ H x y v u Q I rx ry h
 cases x<;>cases y<;>simp only[zgt]at h
 ·exact zaaf pins s σ H _ _ v u Q I rx ry ⟨_,_,rfl,rfl,h⟩
 ·exact zys pins s σ H _ _ v u Q I rx ry ⟨_,_,rfl,rfl,h⟩
 ·rcases h with h | h
  ·exact zaan pins s σ H _ _ v u Q I rx ry h
  ·exact zyq pins s σ H _ _ v u Q I rx ry h
def rGtA:R2:=λx y H Q=>match x,y with
 | .int i,.int j=>Q (.bl (decide (j<i))) H
 | _,_=>False
def rGeA:R2:=λx y H Q=>match x,y with
 | .int i,.int j=>Q (.bl (decide (j<=i))) H
 | _,_=>False
theorem zoo:OpR X (compareOp .Lt) rLtA:=by
 intro pins s σ H x y v u Q I rx ry h
 cases x<;>cases y<;>simp only[rLtA]at h
 ·exact zacf pins s σ H _ _ v u Q I rx ry ⟨_,_,rfl,rfl,h⟩
 ·obtain⟨t,rfl⟩:=rx
  obtain⟨t',rfl⟩:=ry
  exact PySem.P.lt_str ⟨.bl _,H,I,rfl,h⟩
theorem zk8:OpR X (compareOp .LtE) rLeA:=by
 intro pins s σ H x y v u Q I rx ry h
 cases x<;>cases y<;>simp only[rLeA]at h
 ·exact zacg pins s σ H _ _ v u Q I rx ry ⟨_,_,rfl,rfl,h⟩
 ·obtain⟨t,rfl⟩:=rx
  obtain⟨t',rfl⟩:=ry
  exact PySem.P.le_str ⟨.bl _,H,I,rfl,h⟩
abbrev rIsN:R2:=λx y H Q=>y=.non/\Q (.bl (decide (x=.non))) H
abbrev zu1:R2:=λx y H Q=>y=.non/\Q (.bl (!decide (x=.non))) H
variable{a:Expr}{ta:TE}{tA:TT}{pos:Pos}
abbrev tTru(K:PySem.W.Frag)(ta:TE):TT:=λσ H Q=>ta σ H λx H'=>∃ k,TruV K x H' k/\Q k H'
def rIxA(K:PySem.W.Frag):R2:=rIx K
theorem zdu:IxR X (rIxA X.K):=zaaj
def rSlA(K:PySem.W.Frag):V->Option Int->Option Int->Hp->VK->Prop:=λx lo hi H Q=>match x with
 | .str z=>z.length<=sizeLine/\Q (.str (Txt.slice z lo hi)) H
 | _=>rSlL K x lo hi H Q\/rSlT K x lo hi H Q
def iSeq(K:PySem.W.Frag)(tl:TE):TI:=λσ H R=>tl σ H λx H1=>∃ a,x=.ref a/\(((∃ xs,SqL K H1 a xs)/\R (Itl K a) H1)\/((∃ xs,SqT K H1 a xs)/\R (Itt K a) H1))
theorem PI.or{tg it:Expr}{w1 w2:TI}(h1:PI X tg it w1)(h2:PI X tg it w2):PI X tg it (λσ H R=>w1 σ H R\/w2 σ H R):=λpins s σ H R I h=>h.elim (h1 pins s σ H R I) (h2 pins s σ H R I)
def zbz(K:PySem.W.Frag):List V->Hp->VK->Prop:=λxs H Q=>∃ x n,xs=[x]/\LenV K x H n/\Q (.int n) H
theorem zd6:CallR X (.builtin "len") (zbz X.K):=zv5
def zd1(K:PySem.W.Frag):List V->Hp->VK->Prop:=λxs H Q=>∃ p ys,xs=[.ref p]/\(SqL K H p ys\/SqT K H p ys)/\∀ l,H l=none->Q (.ref l) (upd H l (.lst ys))
theorem zkh:CallR X (.type "list") (zd1 X.K):=zqf
def zd7(K:PySem.W.Frag):List V->Hp->VK->Prop:=λxs H Q=>∃ p ys,xs=[.ref p]/\((SqL K H p ys/\∀ l,H l=none->Q (.ref l) (upd H l (.tup ys)))\/(SqT K H p ys/\Q (.ref p) H))
theorem zmq:CallR X (.type "tuple") (zd7 X.K):=zo1
def zgb(K:PySem.W.Frag):List V->Hp->VK->Prop:=λxs H Q=>(∃ i,xs=[.int i]/\Q (.int i) H)\/∃ k,xs=[.bl k]/\Q (.int (if k then 1 else 0)) H
abbrev zgc:=zum
end
end L2
set_option linter.all false
set_option maxRecDepth 100000
set_option maxHeartbeats 4000000
namespace L2
open PySem PySem.Spec PyProof.Rows
section
variable{X:Cx}{tg a:Expr}{ta:TE}{pos:Pos}
theorem zs0{l:Expr}{tl:TE}(hl:PE X l tl):PI X tg l (iSeq X.K tl):=by
 intro pins s σ H R I h
 refine thn (hl pins s σ H _ I h) λv s1 ⟨x,H1,I1,r1,q1⟩=> ?_
 obtain⟨a,e,q1⟩:=q1
 subst e
 cases r1
 have fp1:∀ b∈[s1.heap.objs.size],FpOk X pins H1 b:=λb hb=>by
  have e:b=s1.heap.objs.size:=by simpa using hb
  subst e
  exact I1.fpOk (Nat.le_refl _) (I1.hok.fresh (Nat.le_refl _))
 rcases q1 with⟨⟨xs,hq⟩,q⟩ | ⟨⟨xs,hq⟩,q⟩
 ·obtain⟨its,rv,p,hz⟩:=I1.list hq
  refine wpAny_pyIter_list p.isList ?_
  exact⟨s1.heap.objs.size,[s1.heap.objs.size],_,_,H1,rfl,I1.kept (t':=s1.toks) λb o e=>Heap.get?_push_of_some _ e,zua a _,⟨_,Heap.get?_push_size _ rfl,rfl,rfl⟩,fp1,q⟩
 ·obtain⟨its,rv,p,hz⟩:=I1.tuple hq
  refine wpAny_pyIter_tuple (show s1.heap.IsTuple a its.toArray from p) ?_
  exact⟨s1.heap.objs.size,[s1.heap.objs.size],_,_,H1,rfl,I1.kept (t':=s1.toks) λb o e=>Heap.get?_push_of_some _ e,ztc a _,⟨_,Heap.get?_push_size _ rfl,rfl,rfl⟩,fp1,q⟩
def zacp(K:PySem.W.Frag)(ta:TE):TE:=λσ H Q=>ta σ H λx H1=>∃ k,TruV K x H1 k/\Q (.bl (!k)) H1
end
def cpOk(scope outer:Scope)(N cn:List Str)(cap:List Nat):Bool :=
 scope.kind == .function && scope.names.all (λy=>y.2 != .cell) && scope.names.all (λy=>y.2 != .local || scope.names.lookup y.1 == some .local) &&
 scope.names.all (λy=>y.2 != .free || outer.names.lookup y.1 == some .cell || outer.names.lookup y.1 == some .free) && cn.all (λx=>scope.names.lookup x == some .free) && (cap.map (λi=>N[i]?) == cn.map some)
theorem zk9{X:Cx}{scope outer:Scope}{N tn cn:List Str}{cap:List Nat}(h1:X.env.scope=outer)(h2:X.N=N)(h:cpOk scope outer N cn cap=true):zmn X scope tn cn cap:=by
 unfold cpOk at h
 simp only[Bool.and_eq_true,List.all_eq_true,Bool.or_eq_true,bne_iff_ne,beq_iff_eq]at h
 obtain⟨⟨⟨⟨⟨k1,k2⟩,k3⟩,k4⟩,k5⟩,k6⟩:=h
 refine⟨k1,k2,λy hy hl=>(k3 y hy).resolve_left λz=>z hl,λy hy hf=> ?_,k5,by rw[h2];exact k6⟩
 have z:=k4 y hy
 show X.env.scope.names.lookup y.1=_\/X.env.scope.names.lookup y.1=_
 rw[h1]
 rcases z with(z | z) | z
 ·exact absurd hf z
 ·exact .inl z
 ·exact .inr z
structure ExcC(K:PySem.W.Frag)(C:Addr):Prop where
 ga:PySem.W.findIn K (.ref C) "__getattribute__"=some (some (.builtin "BaseException.__getattribute__"))
 gt:PySem.W.findIn K (.ref C) "__getattr__"=some none
 be:PySem.W.mroIn K C (.type "BaseException")=some true
 cl:PySem.W.isClsIn K C=true
 ha:PySem.W.findIn K (.ref C) "__class__"=some (some (.builtin "object.__class__"))
 hn:PySem.W.specialIn K (.builtin "object.__class__") "__get__"=some (some (.builtin "getset_descriptor.__get__"))
 tk:PySem.W.takesIn K (.builtin "object.__class__")=some true
 mr:PySem.W.mroIn K C (.type "object")=some true
theorem zo5{K:PySem.W.Frag}{C:Addr}{od:Option Obj}{name:Str}{a g:Value}(hc:(PySem.W.clsIn K C).isSome=true)(ha:PySem.W.findIn K (.ref C) name=some (some a))(hg:PySem.W.specialIn K a "__get__"=some (some g))(ht:PySem.W.takesIn K a=some true) :
  PySem.W.findObj K C od name=some (.bind g a):=by
 obtain⟨cd,hc⟩:=Option.isSome_iff_exists.mp hc
 unfold PySem.W.findObj
 rw[hc,Option.bind_some,ha,Option.bind_some]
 simp[hg,ht]
theorem zu2{K:PySem.W.Frag}{M:Model}{A:Around}{E:Value->Shared->Prop}{Q:Unit->Shared->Prop}{s:Shared}{x D:Addr}{ox:Obj}{nm:Value}(c:ExcC K D)(X:K.In s.heap)(I:PySem.W.InstAt s.heap x ox D none)(k:Q () s) :
    wpAny M A (checkBuiltinCall "BaseException.__getattribute__" ⟨[.ref x,nm],[]⟩) Q E s:=by
  have e1:builtinKind "BaseException.__getattribute__"=some .slot:=by decide +kernel
  have e2:splitId "BaseException.__getattribute__"=some ("BaseException","__getattribute__"):=by decide +kernel
  have L:PySem.W.Looks M s.heap (isInstance (.ref x) (.type "BaseException")) true:=(I.type (M:=M)).andThen (PySem.W.looks_mroIn (M:=M) X c.be)
  have ar:=PySem.F.args_bexc_ga (.ref x) nm
  obtain⟨hh,g,d,t,os⟩:=s
  simp only[checkBuiltinCall,e1,e2]
  refine wpAny_bind (L.at ?_)
  simp only[Bool.not_true,Bool.false_eq_true,if_false]
  cases hs:Manifest.signature? "BaseException.__getattribute__" with
  | none=>exact wpAny_pure k
  | some sig =>
    simp only[argsOk,hs]at ar
    have z:Bind.checkArgs "BaseException.__getattribute__" sig ⟨[.ref x,nm],[]⟩=pure ():=ar
    show wpAny M A (Bind.checkArgs "BaseException.__getattribute__" sig ⟨[.ref x,nm],[]⟩) Q E _
    rw[z];exact wpAny_pure k
theorem zu3{K:PySem.W.Frag}{prog:Program}{w:World}{A:Around}{E:Value->Shared->Prop}{Q:Option Value->Shared->Prop}{s:Shared}{x D:Addr}{ox:Obj}(c:ExcC K D)(X:K.In s.heap)(I:PySem.W.InstAt s.heap x ox D none)
  (k:Q (some (.ref D)) { s with toks:=s.toks+1 }):wpAny (model prog w) A (getAttr? (.ref x) "__class__") Q E s:=by
 obtain⟨hh,g,d,t,os⟩:=s
 have L0:=I.type (M:=model prog w)
 have L1:=PySem.W.looks_findIn (M:=model prog w) X c.ga
 have L2:=PySem.W.looks_findIn (M:=model prog w) X c.gt
 have L3:=PySem.W.looks_find (M:=model prog w) X I (zo5 (name:="__class__") c.cl c.ha c.hn c.tk)
 unfold getAttr? getAttrBy? getAttrBy
 refine wpAny_bind (wpAny_mkText (wpAny_bind (wpAny_attempt (wpAny_holding (wpAny_bind (L0.at (wpAny_bind (L1.at ?_))))))))
 show wpAny _ _ (getAttrByItsOwn _ _ _ _ _ _) _ _ _
 unfold getAttrByItsOwn
 refine wpAny_bind (L2.at (wpAny_bind (wpAny_attempt (wpAny_holding ?_))))
 show wpAny _ _ (boundAndCalled _ _ _) _ _ _
 unfold boundAndCalled
 rw[PySem.F.attr_ValueError.ga.bind (.ref x)]
 refine wpAny_bind (wpAny_pure (wpAny_call (codeAny_call_builtin PySem.F.attr_ValueError.ga.plain PySem.F.entry_bexc_ga (zu2 c X I ?_))))
 refine wpAny_bind (wpAny_pure (wpAny_bind (wpAny_pure (wpAny_bind (L0.at (wpAny_bind (L3.at ?_)))))))
 show wpAny _ _ (holding [_] (call _ _) >>= ret) _ _ _
 refine wpAny_bind (wpAny_holding (wpAny_call (PySem.W.class_get (ox:=ox) (od:=none) X I c.mr (wpAny_pure ?_))))
 exact PySem.W.handed_on rfl (wpAny_pure k)
theorem zwn{K:PySem.W.Frag}{x D:Addr}(c:ExcC K D):PySem.W.KitX K (.ref x) (.ref D) (znn x (.ref D)):=by
 have inst:∀ {h:Heap},znn x (.ref D) h->∃ ox,PySem.W.InstAt h x ox D none:=λ{h} ⟨oe,vs,e1,e2,e3,e4⟩=>by
  refine⟨oe,e1,e2,?_,?_⟩
  ·unfold PySem.W.notCls;rw[e4]
  ·rw[e3];trivial
 have cls:∃ cd,PySem.W.clsIn K D=some cd:=Option.isSome_iff_exists.mp c.cl
 refine⟨λM h _ p=>(inst p).elim λ_ I=>I.type,λM h X p=> ?_,λh tp dd its n sl X htp=> ?_,λ{prog w A E Q s} X p k=> ?_⟩
 ·obtain⟨cd,hc⟩:=cls
  unfold PySem.W.clsIn at hc
  split at hc
  ·rename_i c' d' cd' sl' ho
   intro A' Q' E' s' k q
   unfold isType loadHead
   exact wpAny_bind (wpAny_loadPart (k _ _ (X _ _ ho)) (wpAny_pure q))
  ·cases hc
 ·obtain⟨cd,hc⟩:=cls
  refine Bool.eq_false_iff.mpr λq=> ?_
  have e:D=tp:=Value.ref.inj (beq_iff_eq.mp q)
  subst e
  unfold PySem.W.clsIn at hc
  split at hc
  ·rename_i c' d' cd' sl' ho
   have z:=(X _ _ ho).symm.trans htp
   cases z
  ·cases hc
 ·obtain⟨ox,I⟩:=inst p
  exact zu3 c X I k
def TyX(K:PySem.W.Frag)(H:Hp)(x:V)(t:Value):Prop:=TyOf K H x t\/∃ a C,x=.ref a/\t=.ref C/\H a=some (.ext (znn a (.ref C)))/\ExcC K C
inductive ClsV:V->Value->Prop
 | own (C:Addr):ClsV (.ref C) (.ref C)
 | ty (n:String):ClsV (.ty n) (.type n)
theorem ClsV.rel{y:V}{c u:Value}(h:ClsV y c)(r:RelV y u):u=c:=by
 cases h<;>exact r
theorem zql:∀ {ys:List V} {cs us:List Value},Paired ClsV ys cs->Vals ys us->us=cs
 | _,_,_,.nil,.nil=>rfl
 | _,_,_,.cons h t,.cons r rr=>by rw[h.rel r,zql t rr]
def zdo(K:PySem.W.Frag):List V->Hp->VK->Prop:=λxs H Q=>∃ x y t b,xs=[x,y]/\TyX K H x t ∧
 ((∃ c,ClsV y c/\PySem.W.kitOne K t c=some b)\/∃ p ys cs,y=.ref p/\SqT K H p ys/\Paired ClsV ys cs/\PySem.W.kitAny K t cs=some b)/\Q (.bl b) H
section
variable{X:Cx}
theorem TyX.kit{pins:List (Addr × Obj)}{σ:St}{H:Hp}{s:Shared}{x:V}{t u:Value}(I:Inv X pins σ H s)(h:TyX X.K H x t)(r:RelV x u):∃ φ :Heap->Prop,PySem.W.KitX X.K u t φ /\ φ s.heap/\u≠.builtin "__main__.__loader__#opaque":=by
  rcases h with h | ⟨a,C,rfl,rfl,e,c⟩
  · cases h with
    | non=>cases (show u=Value.none from r);exact⟨_,PySem.W.kitx_none,trivial,λz=>nomatch z⟩
    | bl y=>cases (show u=Value.bool y from r);exact⟨_,PySem.W.kitx_bool,trivial,λz=>nomatch z⟩
    | int i=>obtain⟨t,q⟩:=(show ∃ t,u=Value.int i t from r);cases q;exact⟨_,PySem.W.kitx_int,trivial,λz=>nomatch z⟩
    | str y=>obtain⟨t,q⟩:=(show ∃ t,u=Value.str y t from r);cases q;exact⟨_,PySem.W.kitx_str,trivial,λz=>nomatch z⟩
    | flt y=>obtain⟨t,q⟩:=(show ∃ t,u=Value.float y t from r);cases q;exact⟨_,PySem.W.kitx_float,trivial,λz=>nomatch z⟩
    | @lst a xs ea =>
      cases (show u=Value.ref a from r)
      obtain⟨_,_,n,_,h1⟩:=(show ObjOk X.prog X.w H s.heap a (.lst xs)from I.hok a _ ea)
      exact⟨_,PySem.W.kitx_list,⟨_,h1,rfl⟩,λz=>nomatch z⟩
    | @frz a ob xs ea =>
      cases (show u=Value.ref a from r)
      obtain⟨_,_,_,n,_,h1⟩:=(show ObjOk X.prog X.w H s.heap a (.frz ob (.lst xs))from I.hok a _ ea)
      exact⟨_,PySem.W.kitx_list,⟨_,h1,rfl⟩,λz=>nomatch z⟩
    | @tup a xs ea =>
      cases (show u=Value.ref a from r)
      obtain⟨_,_,_,p⟩:=(show ObjOk X.prog X.w H s.heap a (.tup xs)from I.hok a _ ea)
      obtain⟨o,h1,h2,_⟩:=p
      exact⟨_,PySem.W.kitx_tuple,⟨o,h1,h2⟩,λz=>nomatch z⟩
    | @dK a kvs ea =>
      cases (show u=Value.ref a from r)
      obtain⟨_,_,vs,_,p⟩:=(show ObjOk X.prog X.w H s.heap a (.dK kvs)from I.hok a _ ea)
      obtain⟨o,es,ep,h1,h2,_⟩:=p
      exact⟨_,PySem.W.kitx_dict,⟨o,h1,h2.1⟩,λz=>nomatch z⟩
    | @dT a kvs ea =>
      cases (show u=Value.ref a from r)
      obtain⟨_,_,xs,_,o,es,ep,h1,h2,_⟩:=(show ObjOk X.prog X.w H s.heap a (.dT kvs)from I.hok a _ ea)
      exact⟨_,PySem.W.kitx_dict,⟨o,h1,h2.1⟩,λz=>nomatch z⟩
    | @ins a C dx fs ea cl ha hn htk hm =>
      cases (show u=Value.ref a from r)
      obtain⟨mA,O,_⟩:=zoz I.hok ea
      obtain⟨od,J,_⟩:=O.look
      exact⟨_,PySem.W.kitx_own (cl.get _) cl.hd ha hn htk hm,J,λz=>nomatch z⟩
  · cases (show u=Value.ref a from r)
    have p:znn a (.ref C) s.heap:=(show ObjOk X.prog X.w H s.heap a (.ext (znn a (.ref C)))from I.hok a _ e).1
    exact⟨_,zwn c,p,λz=>nomatch z⟩
theorem zgd:CallR X (.builtin "isinstance") (zdo X.K):=by
 intro pins s σ H xs us Q I r h
 obtain⟨x,y,t,b,rfl,ty,hc,q⟩:=h
 obtain⟨u,v,rfl,rx,ry⟩:=Vals.two r
 obtain⟨φ,Z,p,ne⟩:=ty.kit I rx
 rcases hc with⟨c,hy,e⟩ | ⟨pt,ys,cs,rfl,hs,hcs,e⟩
 ·have:=hy.rel ry
  subst this
  exact PySem.W.kia_one Z I.kIn p e ne λtk=>⟨.bl b,H,I.tok tk,rfl,q⟩
 ·cases (show v=Value.ref pt from ry)
  obtain⟨its,rv,⟨⟨c1,c2,c3,c4⟩,e1,e2,n,e3⟩,_⟩:=I.tuple hs
  obtain rfl:c1=_:=e2
  obtain rfl:c3=_:=e3
  have:=zql hcs rv
  subst this
  exact PySem.W.kia_tup Z I.kIn p e1 e ne λtk=>⟨.bl b,H,I.tok tk,rfl,q⟩
end
end L2
set_option linter.all false
namespace L2
open PySem PySem.Spec PyProof.Rows
def zmr (J:It) (g:TG) (tt:TT) (te:TE) (k:Nat) (cap:List Nat) (σ:St) (H1:Hp) (Q:VK):Prop :=
  ∃ W : Nat->Nat->St->List V->Hp->Prop,(∃ m,W 0 m (zo2 k cap σ) [] H1)/\∀ i m σ' ys H,W i m σ' ys H →
    (J.stop i H/\∀ p,H p=none->Q (.ref p) (upd H p (.lst ys))) ∨
    (J.go i H/\ys.length<sizeLine/\∀ x H',J.yld i H x H'->g x σ' H' λσ2 H2=>tt σ2 H2 λb H3 =>
      if b=true then ∃ N:VK,(∀ y H4,N y H4->∃ m',m'<m/\W (i+1) m' σ2 (ys++[y]) H4)/\te σ2 H3 N else ∃ m',m'<m/\W (i+1) m' σ2 ys H3)
def zo6 (J:It) (g:TG) (tb:TS) (D:Ends) (σ:St) (H1:Hp):Prop :=
  ∃ W:Nat->Nat->St->Hp->Prop,(∃ m,W 0 m σ H1)/\∀ i m σ H,W i m σ H →
    (J.stop i H/\D.nx σ H)\/(J.go i H/\∃ N:St->Hp->Prop,(∀ σ' H',N σ' H'->∃ m',m'<m/\W (i+1) m' σ' H')/\∀ x H',J.yld i H x H'->g x σ H' λσ2 H2=>tb { D with nx:=N,ct:=N,bk:=D.nx } σ2 H2)
section
variable{K:PySem.W.Frag}{ta tb tc to ti tv tl:TE}{tt tA tB' tu:TT}{s1 s2:TS}{r r':R2}{σ:St}{H:Hp}{Q:VK}{D:Ends}{QB:Bool->Hp->Prop}{as:TA}{g:TG}{gs:TGs}{te:TE}{k i:Nat}{cap:List Nat}{f m:Str}{C:Addr}{sp:Sp}{dvs:List V}{E:St->XK}{v:V}{vs:List V}{QA:List V->Hp->Prop}{QG:St->Hp->Prop}{QO:Option Int->Hp->Prop}
theorem zyt:tSeq s1 s2 D σ H=(s1 { D with nx:=s2 D } σ H):=rfl
theorem zwo:zf2 D σ H=(D.nx σ H):=rfl
theorem zu4:zaac D σ H=(D.bk σ H):=rfl
theorem zwp:zacb D σ H=(D.ct σ H):=rfl
theorem zyu:tAsg ta g D σ H=(ta σ H λx H1=>g x σ H1 D.nx):=rfl
theorem zwq:zlf ta D σ H=(ta σ H λ_ H1=>D.nx σ H1):=rfl
theorem zyv:tRet ta D σ H=(ta σ H D.rt):=rfl
theorem zwr:zacc D σ H=(D.rt .non H):=rfl
theorem zyw:tIfS tt s1 s2 D σ H=(tt σ H λb H1=>if b=true then s1 D σ H1 else s2 D σ H1):=rfl
theorem zacq:tC v σ H Q=(Q v H):=rfl
theorem zaa1:tOp r ta tb σ H Q=(ta σ H λx H1=>tb σ H1 λy H2=>r x y H2 Q):=rfl
theorem zws:zfe ta σ H QB=(ta σ H λx H'=>∃ k,x=.bl k/\QB k H'):=rfl
theorem zu5:zji r r' ta tb tc σ H Q=(ta σ H λx H1=>tb σ H1 λy H2=>r x y H2 λz H3=>∃ k,z=.bl k/\(if k=true then tc σ H3 λw' H4=>r' y w' H4 Q else Q (.bl false) H3)):=rfl
theorem zyx:tNot tt σ H QB=(tt σ H λc H1=>QB (!c) H1):=rfl
theorem zyy:tAnd tt tu σ H QB=(tt σ H λc H1=>if c=true then tu σ H1 QB else QB false H1):=rfl
theorem zaa2:tOr tt tu σ H QB=(tt σ H λc H1=>if c=true then QB true H1 else tu σ H1 QB):=rfl
theorem zwt:zv1 ta tb σ H Q=(ta σ H λx H1=>∃ c,x=.bl c/\if c=true then tb σ H1 Q else Q (.bl false) H1):=rfl
theorem zyz:tOrV ta tb σ H Q=(ta σ H λx H1=>∃ c,x=.bl c/\if c=true then Q (.bl true) H1 else tb σ H1 Q):=rfl
theorem zwu:zacp K ta σ H Q=(ta σ H λx H1=>∃ k,TruV K x H1 k/\Q (.bl (!k)) H1):=rfl
theorem zy0:tTru K ta σ H QB=(ta σ H λx H'=>∃ k,TruV K x H' k/\QB k H'):=rfl
theorem zaa3:tIf tt ta tb σ H Q=(tt σ H λc H1=>if c=true then ta σ H1 Q else tb σ H1 Q):=rfl
theorem zy1:tNil σ H QA=(QA [] H):=rfl
theorem zwv:zaf ta as σ H QA=(ta σ H λx H1=>as σ H1 λxs H2=>QA (x::xs) H2):=rfl
theorem zy2:tTup as σ H Q=(as σ H λxs H1=>xs.length<=sizeLine/\∀ p,H1 p=none->Q (.ref p) (upd H1 p (.tup xs))):=rfl
theorem zy3:tLst as σ H Q=(as σ H λxs H1=>xs.length<=sizeLine/\∀ p,H1 p=none->Q (.ref p) (upd H1 p (.lst xs))):=rfl
theorem zww:zke sp dvs E as σ H Q=(as σ H λvs H1=>sp (vs++dvs) H1 Q (E σ)):=rfl
theorem zwx:zbq C m sp dvs E ta as σ H Q=(ta σ H λx H1=>∃ a dx fs,x=.ref a/\H1 a=some (.ins C dx fs)/\fs.lookup m=none/\as σ H1 λvs H2=>sp (x::(vs++dvs)) H2 Q (E σ)):=rfl
theorem zwy:zqa C sp dvs E as σ H Q=(as σ H λvs H1=>∀ x dx,H1 x=none->H1 dx=none->dx≠x->sp (.ref x::(vs++dvs)) (upd (upd H1 dx (.own x)) x (.ins C dx [])) (λv H2=>v=.non/\Q (.ref x) H2) (E σ)):=rfl
theorem zy4:tFld K ta f σ H Q=(ta σ H λx H1=>∃ a C dx fs v,x=.ref a/\H1 a=some (.ins C dx fs)/\Cls K C/\NoAttr K C f/\fs.lookup f=some v/\Q v H1):=rfl
theorem zy5:sFld K ta tv f D σ H=(tv σ H λy H1=>ta σ H1 λx H2=>∃ a C dx fs,x=.ref a/\H2 a=some (.ins C dx fs)/\Cls K C/\NoAttr K C f/\fs.length<1000/\D.nx σ (upd H2 a (.ins C dx (putF f y fs)))):=rfl
theorem zaa4{ru:V->Hp->VK->Prop}:tUn ru ta σ H Q=ta σ H λx H1=>ru x H1 Q:=rfl
theorem zaa5{rc:List V->Hp->VK->Prop}:tCB rc as σ H Q=as σ H λvs H1=>rc vs H1 Q:=rfl
theorem zu6:zk7 C E as D σ H=(as σ H λvs H1=>vs.length<=sizeLine/\E σ (.ref C) none H1):=rfl
theorem zy6{sb:(St->XK)->TS}{th:TH}:tTry sb th D σ H=sb (λσ' cls _ H'=>th cls D σ' H') D σ H:=rfl
theorem zwz:zbw i v σ H QG=(QG (σ.set i (some v)) H):=rfl
theorem zy7{rs:TSet}:gSub to ti rs v σ H QG=to σ H λo H1=>ti σ H1 λi H2=>rs o i v H2 λH3=>QG σ H3:=rfl
theorem zy8:gTup K k gs v σ H QG=(∃ a xs,v=.ref a/\SqT K H a xs/\xs.length=k/\gs xs σ H QG):=rfl
theorem zy9:gNil vs σ H QG=((vs=[]/\QG σ H)):=rfl
theorem zw0:ztb g gs vs σ H QG=(∃ v r,vs=v::r/\g v σ H λσ' H'=>gs r σ' H' QG):=rfl
theorem zaa6{rs:V->Option Int->Option Int->Hp->VK->Prop}{ol oh:TO}:tSl rs ta ol oh σ H Q=ta σ H λx H1=>ol σ H1 λl H2=>oh σ H2 λu H3=>rs x l u H3 Q:=rfl
theorem ztm:zya σ H QO=(QO none H):=rfl
theorem zw1:zaci ta σ H QO=(ta σ H λx H1=>∃ i,x=.int i/\QO (some i) H1):=rfl
theorem zaa7{T:String}{rm:V->List V->Hp->VK->Prop}:tBM K T rm ta as σ H Q=ta σ H λx H1=>tyV K T x H1/\as σ H1 λxs H2=>rm x xs H2 Q:=rfl
theorem zza{T:String}{rm:V->List V->Hp->VK->Prop}:tBM0 K T rm ta σ H Q=ta σ H λx H1=>tyV K T x H1/\rm x [] H1 Q:=rfl
theorem zzb{tip:TIp}:tAug i ta tip D σ H=∃ x,σ[i]? =some (some x)/\ta σ H λy H1=>tip x y H1 λz H2=>D.nx (σ.set i (some z)) H2:=rfl
theorem zw2:zg3 σ H QB=(QB true H):=rfl
theorem zo7:zjm (zoy as) g tt te k cap σ H Q=(as σ H λvs H1=>∃ j:Int,vs=[.int j]/\ -(2 ^ 62)<=j/\j<2 ^ 62/\zmr (Itr 0 j.toNat) g tt te k cap σ H1 Q):=rfl
theorem zo8:zjm (zaad as) g tt te k cap σ H Q=(as σ H λvs H1=>∃ i j:Int,vs=[.int i,.int j]/\(-(2 ^ 62)<=i/\i<2 ^ 62/\ -(2 ^ 62)<=j/\j<2 ^ 62)/\zmr (Itr i (j - i).toNat) g tt te k cap σ H1 Q):=rfl
theorem zqm:zjm (iSeq K tl) g tt te k cap σ H Q=(tl σ H λx H1=>∃ a,x=.ref a/\(((∃ xs,SqL K H1 a xs)/\zmr (Itl K a) g tt te k cap σ H1 Q)\/((∃ xs,SqT K H1 a xs)/\zmr (Itt K a) g tt te k cap σ H1 Q))):=rfl
theorem zqn:tFor (zoy as) g s1 D σ H=(as σ H λvs H1=>∃ j:Int,vs=[.int j]/\ -(2 ^ 62)<=j/\j<2 ^ 62/\zo6 (Itr 0 j.toNat) g s1 D σ H1):=rfl
theorem zqo:tFor (zaad as) g s1 D σ H=(as σ H λvs H1=>∃ i j:Int,vs=[.int i,.int j]/\(-(2 ^ 62)<=i/\i<2 ^ 62/\ -(2 ^ 62)<=j/\j<2 ^ 62)/\zo6 (Itr i (j - i).toNat) g s1 D σ H1):=rfl
theorem zrw:tFor (iSeq K tl) g s1 D σ H=(tl σ H λx H1=>∃ a,x=.ref a/\(((∃ xs,SqL K H1 a xs)/\zo6 (Itl K a) g s1 D σ H1)\/((∃ xs,SqT K H1 a xs)/\zo6 (Itt K a) g s1 D σ H1))):=rfl
theorem ztn{rd:V->V->Hp->VK->Prop}:zx6 K ta tv rd f D σ H=(ta σ H λx H1=>∃ a C dx fs v,x=.ref a/\H1 a=some (.ins C dx fs)/\Cls K C/\NoAttr K C f/\fs.lookup f=some v/\tv σ H1 λy H2=>rd v y H2 λz H3=>∃ dx' fs',H3 a=some (.ins C dx' fs')/\fs'.length<1000/\D.nx σ (upd H3 a (.ins C dx' (putF f z fs')))):=rfl
end
end L2
set_option linter.all false
namespace L2
open PySem PySem.Spec PyProof.Rows
section
variable{K:PySem.W.Frag}{σ:St}{H:Hp}{Q:VK}{P:Bool->Prop}{PI':Int->Prop}{PV:V->Prop}{QB:Bool->Hp->Prop}{v:V}{x:Option V}{i j:Int}{n:Nat}{b b':Bool}{s s':Str}{p q:Addr}{f:Int->Int->V}{C:Int->Int->Prop}
def tVr(i:Nat):TE:=λσ H Q=>match σ[i]? with
 | some (some v)=>Q v H
 | _=>False
theorem zacr:tVr 0 (some v::σ) H Q=Q v H:=rfl
theorem zacs:tVr (n+1) (x::σ) H Q=tVr n σ H Q:=rfl
theorem zaa8(i:Nat):tVr i=tVar i:=by
 funext σ H Q
 unfold tVr tVar
 cases σ[i]? with
 | none=>simp
 | some o=>cases o<;>simp
theorem zact{P:Bool->Prop}:(∃ k,V.bl b=V.bl k/\P k)=P b:=by simp
theorem zaa9{P:Int->Prop}:(∃ k,V.int i=V.int k/\P k)=P i:=by simp
theorem zaba{P:Addr->Prop}:(∃ k,V.ref p=V.ref k/\P k)=P p:=by simp
theorem zu7{P:Bool->Prop}:(∃ k,TruV K (.bl b) H k/\P k)=P b:=by simp[TruV]
theorem zto{P:Bool->Prop}:(∃ k,TruV K (.int i) H k/\P k)=P (i != 0):=by simp[TruV]
theorem ztp{P:Bool->Prop}:(∃ k,TruV K .non H k/\P k)=P false:=by simp[TruV]
theorem zzc:ze4 K (.int i) (.int j) H Q=Q (.int (i+j)) H:=rfl
theorem zzd:ze4 K (.str s) (.str s') H Q=(s.length+s'.length<=sizeLine/\Q (.str (s++s')) H):=rfl
theorem zze:ze4 K (.ref p) (.ref q) H Q=(rCat (.ref p) (.ref q) H Q\/zyb K (.ref p) (.ref q) H Q\/zu0 K (.ref p) (.ref q) H Q):=rfl
theorem zabb{x y:Str}:rLeA (.str x) (.str y) H Q=Q (.bl (!decide (y.cps.toList<x.cps.toList))) H:=rfl
theorem zabc{x y:Str}:rLtA (.str x) (.str y) H Q=Q (.bl (decide (x.cps.toList<y.cps.toList))) H:=rfl
theorem zabd{x:Str}{lo hi:Option Int}:rSlA K (.str x) lo hi H Q=(x.length<=sizeLine/\Q (.str (Txt.slice x lo hi)) H):=rfl
theorem zzf:zgt K (.int i) (.int j) H Q=(CMul i j/\Q (.int (i * j)) H):=rfl
theorem zzg{z:Str}{j:Int}:zgt K (.str z) (.int j) H Q=(0<=j/\j<=1000/\z.length<=1000/\Q (.str (repS z j)) H):=rfl
theorem zzh:zgt K (.ref p) (.int j) H Q=(rRep (.ref p) (.int j) H Q\/zyp K (.ref p) (.int j) H Q):=rfl
theorem zacu:rI0 f (.int i) (.int j) H Q=Q (f i j) H:=by simp[rI0]
theorem rI_i:rI C f (.int i) (.int j) H Q=(C i j/\Q (f i j) H):=by simp[rI]
theorem rU_i{g:Int->V}:rU g (.int i) H Q=Q (g i) H:=by simp[rU]
theorem zabe:rLtA (.int i) (.int j) H Q=Q (.bl (decide (i<j))) H:=rfl
theorem zabf:rLeA (.int i) (.int j) H Q=Q (.bl (decide (i<=j))) H:=rfl
theorem zabg:rGtA (.int i) (.int j) H Q=Q (.bl (decide (j<i))) H:=rfl
theorem zabh:rGeA (.int i) (.int j) H Q=Q (.bl (decide (j<=i))) H:=rfl
theorem zabi:rEqA K (.int i) (.int j) H Q=Q (.bl (decide (i=j))) H:=by simp[rEqA,scal]
theorem zabj:rEqA K (.str s) (.str s') H Q=Q (.bl (decide (s=s'))) H:=by simp[rEqA,scal]
theorem zabk:rEqA K (.bl b) (.bl b') H Q=Q (.bl (decide (b=b'))) H:=by simp[rEqA,scal]
theorem zzi:rEqA K .non (.int j) H Q=Q (.bl false) H:=by simp[rEqA,scal]
theorem zzj:rEqA K (.int j) .non H Q=Q (.bl false) H:=by simp[rEqA,scal]
theorem zzk:rEqA K .non .non H Q=Q (.bl true) H:=by simp[rEqA,scal]
theorem zabl:rNeA K (.int i) (.int j) H Q=Q (.bl (!decide (i=j))) H:=by simp[rNeA,scal]
theorem zabm:rNeA K (.str s) (.str s') H Q=Q (.bl (!decide (s=s'))) H:=by simp[rNeA,scal]
theorem zabn:rNeA K (.bl b) (.bl b') H Q=Q (.bl (!decide (b=b'))) H:=by simp[rNeA,scal]
theorem zzl:rNeA K .non (.int j) H Q=Q (.bl true) H:=by simp[rNeA,scal]
theorem zzm:rNeA K (.int j) .non H Q=Q (.bl true) H:=by simp[rNeA,scal]
theorem zzn:rNeA K .non .non H Q=Q (.bl false) H:=by simp[rNeA,scal]
theorem zzo:rIsN v .non H Q=Q (.bl (decide (v=.non))) H:=by simp[rIsN]
theorem zw3:zu1 v .non H Q=Q (.bl (!decide (v=.non))) H:=by simp[zu1]
theorem zacv{g:Int->Int->Int}:ipI g (.int i) (.int j) H Q=Q (.int (g i j)) H:=by simp[ipI]
theorem zabo:rAdd (.int i) (.int j) H Q=Q (.int (i+j)) H:=by simp[rAdd]
theorem zacw:zbz K [v] H Q=∃ n:Nat,LenV K v H n/\Q (.int n) H:=by simp[zbz]
theorem zacx:zgb K [.bl b] H Q=Q (.int (if b then 1 else 0)) H:=by simp[zgb]
theorem zacy:zgb K [.int i] H Q=Q (.int i) H:=by simp[zgb]
theorem zxt:zd1 K [.ref p] H Q=∃ ys,(SqL K H p ys\/SqT K H p ys)/\∀ l,H l=none->Q (.ref l) (upd H l (.lst ys)):=by simp[zd1]
theorem zzp:zd7 K [.ref p] H Q=∃ ys,((SqL K H p ys/\∀ l,H l=none->Q (.ref l) (upd H l (.tup ys)))\/(SqT K H p ys/\Q (.ref p) H)):=by simp[zd7]
end
theorem pvr{X:Cx}(i:Nat){x:Str}{pos:Pos}(hN:X.N[i]? =some x:=by rfl)(hv:Vis X.env.scope x:=by first | exact Or.inl rfl | exact Or.inr (Or.inl rfl) | exact Or.inr (Or.inr rfl))(hd:(x ==("__debug__":Str))=false:=by decide)
  (hcd:(x ==("__classdict__":Str))=false:=by decide):PE X (.Name x pos) (tVr i):=by
 rw[zaa8]
 exact zz9 hN hv hd hcd
end L2
set_option linter.all false
namespace L2
open PySem PySem.Spec PyProof.Rows
abbrev ends(Q:VK):Ends:={ nx:=λ_ H'=>Q .non H',rt:=Q }
abbrev capV(cap:List Nat)(σ:St):St:=cap.map λi=>(σ[i]?).join
section
variable{K:PySem.W.Frag}{te:TE}{cap:List Nat}{σ:St}{H:Hp}{Q:VK}
theorem zhm{lo:Int}{n:Nat}(hn:n<=sizeLine)(Pv:Nat->List V->Hp->Prop)(h0:Pv 0 [] H)(hs:∀ i ys H,i<n->ys.length=i->Pv i ys H->te (some (.int (lo+i))::capV cap σ) H λy H2=>Pv (i+1) (ys++[y]) H2)
  (hd:∀ ys H,ys.length=n->Pv n ys H->∀ p,H p=none->Q (.ref p) (upd H p (.lst ys))) :
  zmr (Itr lo n) (zbw 0) zg3 te 1 cap σ H Q:=by
 refine⟨λi m σ' ys H=>m=n - i/\i<=n/\ys.length=i/\(∃ x0,σ'=x0::capV cap σ)/\Pv i ys H,⟨n,by simp,Nat.zero_le _,rfl,⟨none,rfl⟩,h0⟩,?_⟩
 rintro i m σ' ys H ⟨rfl,hi,hl,⟨x0,rfl⟩,p⟩
 by_cases hlt:i<n
 ·refine .inr ⟨hlt,by omega,λx H' y=> ?_⟩
  obtain⟨e,y⟩:=y
  subst e y
  simp only[zbw,zg3,if_true]
  refine⟨_,λy H4 q=>⟨n - (i+1),by omega,rfl,hlt,?_,⟨_,rfl⟩,q⟩,hs i ys _ hlt hl p⟩
  rw[List.length_append,List.length_singleton,hl]
 ·have e:i=n:=by omega
  subst e
  exact .inl ⟨Nat.le_refl _,hd ys H hl p⟩
theorem zu8{b:Addr}{xs:List V}(hn:xs.length<=sizeLine)(Pv:Nat->List V->Hp->Prop)(h0:Pv 0 [] H)(hq:∀ i ys H,i<=xs.length->Pv i ys H->SqL K H b xs)
  (hs:∀ i x ys H,xs[i]? =some x->ys.length=i->Pv i ys H->te (some x::capV cap σ) H λy H2=>Pv (i+1) (ys++[y]) H2)
  (hd:∀ ys H,ys.length=xs.length->Pv xs.length ys H->∀ p,H p=none->Q (.ref p) (upd H p (.lst ys))) :
  zmr (Itl K b) (zbw 0) zg3 te 1 cap σ H Q:=by
 refine⟨λi m σ' ys H=>m=xs.length - i/\i<=xs.length/\ys.length=i/\(∃ x0,σ'=x0::capV cap σ)/\Pv i ys H,⟨xs.length,by simp,Nat.zero_le _,rfl,⟨none,rfl⟩,h0⟩,?_⟩
 rintro i m σ' ys H ⟨rfl,hi,hl,⟨x0,rfl⟩,p⟩
 have q:=hq i ys H hi p
 by_cases hlt:i<xs.length
 ·refine .inr ⟨⟨xs,xs[i],q,by simp[hlt]⟩,by omega,λx H' y=> ?_⟩
  obtain⟨e,y⟩:=y
  subst e
  have hx:=y xs q
  simp only[zbw,zg3,if_true]
  refine⟨_,λy H4 q=>⟨xs.length - (i+1),by omega,rfl,hlt,?_,⟨_,rfl⟩,q⟩,hs i x ys _ hx hl p⟩
  rw[List.length_append,List.length_singleton,hl]
 ·have e:i=xs.length:=by omega
  subst e
  exact .inl ⟨⟨xs,q,Nat.le_refl _⟩,hd ys H hl p⟩
theorem zqp{b:Addr}{xs:List V}{g:TG}{tb:TS}{D:Ends}(Pv:Nat->St->Hp->Prop)(h0:Pv 0 σ H)(hl:∀ i σ H,i<=xs.length->Pv i σ H->SqL K H b xs)
  (hs:∀ i x σ H,xs[i]? =some x->Pv i σ H->g x σ H λσ2 H2=>tb { D with nx:=Pv (i+1),ct:=Pv (i+1),bk:=D.nx } σ2 H2) (hd:∀ σ H,Pv xs.length σ H->D.nx σ H):zo6 (Itl K b) g tb D σ H:=zv4 Pv h0 hl hs hd
theorem ztq{lo:Int}{n:Nat}{g:TG}{tb:TS}{D:Ends}(Pv:Nat->St->Hp->Prop)(h0:Pv 0 σ H)
  (hs:∀ i σ H,i<n->Pv i σ H->g (.int (lo+i)) σ H λσ2 H2=>tb { D with nx:=Pv (i+1),ct:=Pv (i+1),bk:=D.nx } σ2 H2) (hd:∀ σ H,Pv n σ H->D.nx σ H):zo6 (Itr lo n) g tb D σ H:=zuc Pv h0 hs hd
end
theorem zhn{K:PySem.W.Frag}{H:Hp}{x y:V}{t c:Value}{b:Bool}{Q:VK}(ty:TyX K H x t)(cv:ClsV y c)(k:PySem.W.kitOne K t c=some b)(q:Q (.bl b) H):zdo K [x,y] H Q:=⟨x,y,t,b,rfl,ty,.inl ⟨c,cv,k⟩,q⟩
theorem zae{H:Hp}{p:Addr}{o:HO}(h:H p=none):Same H (upd H p o):=λb u e=>by rw[zah (zak e h)];exact e
theorem zjp{α β :Type}{F: α -> β ->Prop}:∀ {l:List α} {m:List β} {i:Nat} {y: β},Paired F l m->m[i]? =some y->∃ x,l[i]? =some x/\F x y
  | _,_,_,_,.nil,e=>by simp at e
  | _,_,0,_,.cons r _,e=>by simp at e;subst e;exact⟨_,rfl,r⟩
  | _,_,i+1,y,.cons _ t,e=>by
    obtain⟨u,h1,h2⟩:=zjp (i:=i) (y:=y) t (by simpa using e)
    exact⟨u,by simpa using h1,h2⟩
theorem zqq{K:PySem.W.Frag}{H:Hp}{p:Addr}{xs:List V}{i:Int}{n:Nat}{v:V}{Q:VK}(h:SqL K H p xs)(hi:i=n)(hx:xs[n]? =some v)(q:Q v H):rIxA K (.ref p) (.int i) H Q :=
 .inl ⟨p,xs,i,v,rfl,rfl,h,hi ▸ zrt hx,q⟩
theorem small(n:Nat)(h:n<=100000):n<=sizeLine:=Nat.le_trans h (by decide)
theorem zabp{α :Type}(x: α):∀ w:Nat,(List.replicate w [x]).flatten=List.replicate w x
 | 0=>rfl
 | w+1=>by rw[List.replicate_succ,List.flatten_cons,zabp x w];rfl
theorem zbr{f:Str}{v:V}{fs:List (Str × V)}{n:Nat}(h:fs.length+1<n):(putF f v fs).length<n:=Nat.lt_of_le_of_lt (zff f v fs) h
theorem zs1{d:PyData}(h:shp d):PyData.eqv d d=true:=PySem.SeqAt.eqv_refl d (PySem.SeqAt.canLay_of_shaped h)
end L2
set_option linter.all false
set_option maxRecDepth 100000
set_option maxHeartbeats 4000000
namespace L2
open PySem PySem.Spec PyProof.Rows
def ItK(k:Bool)(h:Heap)(j a:Addr)(i:Nat):Prop:=if k then h.IsListIter j a i else h.IsTupleIter j a i
def SeqK(k:Bool)(h:Heap)(a:Addr)(xs:Array Value):Prop:=if k then h.IsList a xs else h.IsTuple a xs
theorem ItK.up{k:Bool}{h h':Heap}{j a:Addr}{i:Nat}(x:ItK k h j a i)(q:∀ o,h.get? j=some o->h'.get? j=some o):ItK k h' j a i:=by
 cases k<;>exact(let ⟨o,e,r⟩:=x;⟨o,q o e,r⟩)
theorem SeqK.up{k:Bool}{h h':Heap}{a:Addr}{xs:Array Value}(x:SeqK k h a xs)(q:∀ o,h.get? a=some o->h'.get? a=some o):SeqK k h' a xs:=by
 cases k<;>exact(let ⟨o,e,r⟩:=x;⟨o,q o e,r⟩)
theorem ItK.ob{k:Bool}{h:Heap}{j a:Addr}{i:Nat}(x:ItK k h j a i):∃ o,h.get? j=some o/\o.data=.fields #[.ref a,.int i 0]:=by
 cases k<;>exact(let ⟨o,e,_,r⟩:=x;⟨o,e,r⟩)
section
variable{P:Program}{w:World}{A:Around}{E:Value->Shared->Prop}{s:Shared}
theorem zzq{j t:Addr}{i:Nat}{its:Array Value}{Q:Value->Shared->Prop}(z:A.handled=none)(c:s.heap.IsTupleIter j t i)(d:s.heap.IsTuple t its)(e:its[i]? =none)
  (q:∀ h' x,Heap.ExtBut j s.heap h'->(∃ o,h'.get? x=some o/\o.cls=.type "StopIteration")->E (.ref x) { s with heap:=h' }):wpAny (model P w) A (Builtin.SmallTypes.nextOf (.ref j)) Q E s:=by
 obtain⟨oj,e1,e2,e3⟩:=id c
 obtain⟨ot,f1,_,n,f2⟩:=d
 unfold Builtin.SmallTypes.nextOf
 refine wpAny_bind (wpAny_callSpecial?_slot (name:=Str.ofString "__next__") c.typeIs F.slot_tuple_iterator_next (wpAny_call_entry F.slot_tuple_iterator_next c.typeIs F.entry_tuple_iterator_next ?_ (F.args_tuple_iterator_next_1 _)))
 show wpAny (model P w) _ (field (.ref j) 0 >>= _) _ _ s
 refine wpAny_bind (wpAny_field e1 e3 (x:=.ref t) rfl ?_)
 show wpAny (model P w) _ (field (.ref j) 1 >>= _) _ _ s
 refine wpAny_bind (wpAny_field e1 e3 (x:=.int i 0) rfl ?_)
 show wpAny (model P w) _ (seqItems? (.ref t) >>= _) _ _ s
 refine wpAny_bind (wpAny_seqItems f1 f2 ?_)
 simp only[Int.toNat_natCast,e]
 refine wpAny_bind (wpAny_rule (wpAny_bind (wpAny_setField e1 e3 (by simp) ?_)))
 show wpAny (model P w) _ (newExc (.type "StopIteration") [] >>= _) _ _ _
 refine wpAny_bind ?_
 simp only[newExc,newTuple]
 refine wpAny_bind (wpAny_newObj_type (wpAny_bind (m:=firstArgMember _ _) (wpAny_of_eq (a:=Value.none) (by first | rfl | (simp only[firstArgMember];rfl)) (wpAny_newObj_type ?_ (by size_fits)))) (by size_fits))
 simp only[raiseNew]
 refine wpAny_bind (wpAny_handled ?_)
 rw[show A.in1.handled=none from z]
 exact wpAny_bind (wpAny_pure (wpAny_throw (q _ _ (((Heap.SameBut.update ..).extBut.push _).push _) ⟨_,Heap.get?_push_size _ rfl,rfl⟩)))
theorem zacz{k:Bool}{j t:Addr}{i:Nat}{its:Array Value}{Q:Value->Shared->Prop}(z:A.handled=none)(c:ItK k s.heap j t i)(d:SeqK k s.heap t its)(e:its[i]? =none)
  (q:∀ h' x,Heap.ExtBut j s.heap h'->(∃ o,h'.get? x=some o/\o.cls=.type "StopIteration")->E (.ref x) { s with heap:=h' }):wpAny (model P w) A (Builtin.SmallTypes.nextOf (.ref j)) Q E s:=by
 cases k
 ·exact zzq z c d e q
 ·exact wpAny_nextOf_list_end z c d e q
end
section
variable{P:Program}{w:World}{A:Around}{E:Value->Shared->Prop}{s:Shared}
end
theorem Inv.turnedS{X:Cx}{pins:List (Addr × Obj)}{σ:St}{H:Hp}{s:Shared}{h':Heap}{t':Nat}{fp:List Addr}(I:Inv X pins σ H s)(k:∀ b o,b∉fp->s.heap.get? b=some o->h'.get? b=some o)(hf:∀ b∈fp,FpOk X pins H b):Inv X pins σ H { s with heap:=h',toks:=t' }:=by
 have nit:∀ b u,H b=some u->b∉fp:=λb u e z=>by rw[(hf b z).1]at e;cases e
 refine I.step (g':=s.gens) (d':=s.drawn) (ch:=fp) (λb hb=> ?_) (λb o _ _ hc e _=>k b o hc e) (λb o _ _ hc e _=>⟨o.slots,k b o hc e⟩) (λ_ _ _ _ n=>n)
  (λb o hc e=>⟨o,k b o hc e⟩) (λ_ _ e=>e) (λ_ _ _ e=>e) (λb ps e=>⟨#[],by rw[e];simp⟩) (λm hm=> ?_) (λb u e=> ?_) I.bare
 ·obtain⟨_,f1,_,f3,f4,f5⟩:=hf b hb
  exact⟨f3,f1,f4,f5⟩
 ·obtain⟨o,es,ep,ho,r⟩:=hm
  exact⟨o,es,ep,k _ o (λz=>(hf _ z).2.1 rfl) ho,r⟩
 ·refine(I.hok b u e).stay (λc v hc q=>k c v ?_ q) (λ_ q=>q) λ_ _ q=>q
  rcases hc with z | z
  ·rw[z];exact nit b u e
  ·exact nit c _ z
def SqB(K:PySem.W.Frag)(k:Bool)(H:Hp)(a:Addr)(xs:List V):Prop:=if k then SqL K H a xs else SqT K H a xs
theorem Inv.seqK{X:Cx}{pins:List (Addr × Obj)}{σ:St}{H:Hp}{s:Shared}{k:Bool}{a:Addr}{xs:List V}(I:Inv X pins σ H s)(q:SqB X.K k H a xs):∃ its,Vals xs its/\SeqK k s.heap a its.toArray:=by
 cases k
 ·obtain⟨its,rv,p,_⟩:=I.tuple q
  exact⟨its,rv,p⟩
 ·obtain⟨its,rv,p,_⟩:=I.list q
  exact⟨its,rv,p.isList⟩
theorem Inv.seqK_inj{X:Cx}{pins:List (Addr × Obj)}{σ:St}{H:Hp}{s:Shared}{k:Bool}{a:Addr}{xs ys:List V}(I:Inv X pins σ H s)(p:SqB X.K k H a xs)(q:SqB X.K k H a ys):xs=ys:=by
 cases k
 ·exact I.tuple_inj p q
 ·exact I.list_inj p q
theorem SeqK.lt{k:Bool}{h:Heap}{a:Addr}{xs:Array Value}(x:SeqK k h a xs):a<h.objs.size:=by
 cases k<;>exact(let ⟨_,e,_⟩:=x;Heap.lt_size e)
theorem SeqK.nit{k:Bool}{h:Heap}{a b:Addr}{xs:Array Value}(x:SeqK k h a xs){o:Obj}(e:h.get? b=some o)(n:∀ its m,o.data≠.seq its m):a≠b:=by
 intro z
 subst z
 cases k<;>(obtain⟨o',e',_,m,d⟩:=x;rw[e]at e';cases e';exact n _ _ d)
def ZipSt(k k':Bool)(z l l':Addr)(f:Value)(i:Nat)(h:Heap)(T U j j':Addr):Prop :=
 IsZip h z T U f/\IsPair h T (.ref j) (.ref j')/\(∃ a b,IsPair h U a b)/\ItK k h j l i/\ItK k' h j' l' i
structure Five(z T U j j':Addr):Prop where
 a1:T≠z
 a2:U≠z
 a3:j≠z
 a4:j'≠z
 a5:T≠U
 a6:T≠j
 a7:T≠j'
 a8:U≠j
 a9:U≠j'
 a10:j≠j'
theorem SqB.off{X:Cx}{pins:List (Addr × Obj)}{σ:St}{H:Hp}{s:Shared}{k:Bool}{m b:Addr}{zs:List V}(I:Inv X pins σ H s)(q:SqB X.K k H m zs)(f:FpOk X pins H b):m≠b:=by
 intro e
 subst e
 obtain⟨f0,_,_,f3,_⟩:=f
 have no:∀ o,X.K.lookup m=some o->False:=λo hk=>by
  have e:=I.mod.kin m o hk
  rcases f3 with z | z
  ·exact I.ok.noex _ _ e z
  ·exact absurd (Heap.lt_size (I.ok.bs _ _ e).1) (Nat.not_lt.mpr z)
 have nr:∀ u,Rd H m u->False:=λu r=>by
  rcases r with r | ⟨o,r⟩<;>(rw[f0]at r;cases r)
 cases k
 ·rcases q with q | ⟨o,_,_,hk,_⟩
  ·exact nr _ q
  ·exact no o hk
 ·rcases q with q | ⟨o,_,_,hk,_⟩
  ·exact nr _ q
  ·exact no o hk
theorem FpOk.upd{X:Cx}{pins:List (Addr × Obj)}{H:Hp}{a b:Addr}{o:HO}(f:FpOk X pins H b)(n:b≠a):FpOk X pins (upd H a o) b:=⟨(zah n).trans f.1,f.2⟩
theorem ZipSt.lt{k k':Bool}{z l l' T U j j':Addr}{f:Value}{i:Nat}{h:Heap}(q:ZipSt k k' z l l' f i h T U j j'):∀ b∈[z,T,U,j,j'],b<h.objs.size:=by
 obtain⟨h1,h2,⟨a,b',h3⟩,h4,h5⟩:=q
 obtain⟨o4,e4,_⟩:=h4.ob
 obtain⟨o5,e5,_⟩:=h5.ob
 intro b hb
 simp only[List.mem_cons,List.not_mem_nil,or_false]at hb
 rcases hb with rfl | rfl | rfl | rfl | rfl
 ·exact Heap.lt_size h1
 ·exact Heap.lt_size h2
 ·exact Heap.lt_size h3
 ·exact Heap.lt_size e4
 ·exact Heap.lt_size e5
theorem Five.apart{z T U j j' l l':Addr}(D:Five z T U j j')(n:∀ b∈[z,T,U,j,j'],l≠b)(n':∀ b∈[z,T,U,j,j'],l'≠b):ZipApart z T U j j' l l' :=
 ⟨D.a1,D.a2,D.a3,D.a4,D.a5,D.a6,D.a7,D.a8,D.a9,D.a10,n _ (by simp),n _ (by simp),n _ (by simp),n _ (by simp),n' _ (by simp),n' _ (by simp),n' _ (by simp),n' _ (by simp)⟩
section
variable{X:Cx}{tg:Expr}
end
theorem Fun.none{P:Program}{w:World}{K:PySem.W.Frag}{mg:Str->Option Value}{base:Heap}{x qual:Str}{st:Stmt}{f:Addr}{fd:FuncData}{N ps:List Str}{k:Nat}{sp:Sp}(F:Fun K x qual st f fd)(S:zav N ps (zaa st))(no:∀ vs H Q E,sp vs H Q E->False):FnOk P w K mg base (cxE P w) (k+1) f fd ps sp :=
 F.okE S (λvs H Q E h=>(no vs H Q E h).elim) λ_ _ _ _ H vs Q E _ h=>(no vs H Q E h).elim
end L2
set_option linter.all false
set_option maxRecDepth 100000
set_option maxHeartbeats 4000000
namespace L2
open PySem PySem.Spec PyProof.Rows
def Itx(z:Str):It:=⟨λi _=>i<z.cps.size,λi H x H'=>H'=H/\∃ c,z.cps[i]? =some c/\x=.str ⟨#[c]⟩,λi _=>z.cps.size<=i⟩
theorem zs2{P:Program}{w:World}{K:PySem.W.Frag}{tg:Expr}{it:Addr}{z:Str}{t:Tok}{nm:String}(hn:["enumerate","zip","dict_itemiterator","dict_reverseitemiterator","odict_iterator","itertools.zip_longest","itertools.pairwise"].contains nm=false)
  (W:∀ A:Around,A.handled=none->Walks P w A it [it] [it] z.cps.size (SignAt z) (λi h=>h.IsStrIter it nm z t i)) (sf:∀ (A:Around) (i:Nat) (s:Shared) (Q:Value->Shared->Prop) (E:Value->Shared->Prop),s.heap.IsStrIter it nm z t i->Q (.ref it) s->wpAny (model P w) A (pyIter (.ref it)) Q E s) :
  Turn P w K tg (Itx z) [it] it (λi h=>i<=z.cps.size/\h.IsStrIter it nm z t i) where
 mem:=by simp
 obj:=λi h ⟨_,o,e,c,d⟩ b hb=>by
  have e':b=it:=by simpa using hb
  subst e'
  exact⟨o,e,λv q=>by rw[d]at q;cases q⟩
 keep:=λi h h' ⟨l,o,e,r⟩ k=>⟨l,o,k it (by simp) o e,r⟩
 item:=by
  intro X hP hw hK hc i pins s σ H E I hf ⟨_,st⟩ hg
  subst hP hw hK
  obtain⟨f0,f1,f2,f3,f4,f5⟩:=hf it (by simp)
  refine(W _ (I.ok.hd hc)).item i s _ _ hg st λv h' tk hv st' kk=> ?_
  obtain⟨c,u,hx,rfl⟩:=hv
  have I1:Inv X pins σ H { s with heap:=h',toks:=tk }:=I.turned (λb o hb e=>kk b o (by simpa using hb) e) f0 f1 f3 f4 f5
  obtain⟨o,e,c1,d⟩:=id st'
  exact⟨_,rfl,zv2 (s:={ s with heap:=h',toks:=tk }) e c1 d hn ⟨.str ⟨#[c]⟩,H,I1,⟨u,rfl⟩,⟨rfl,c,hx,rfl⟩,⟨hg,st'⟩,λb hb=>(hf b hb).1⟩⟩
 done:=by
  intro X hP hw hK hc i pins s σ H E I hf ⟨l,st⟩ hg
  subst hP hw hK
  obtain⟨f0,f1,f2,f3,f4,f5⟩:=hf it (by simp)
  have e:i=z.cps.size:=Nat.le_antisymm l hg
  subst e
  exact(W _ (I.ok.hd hc)).done s _ _ st λh' tk kk=>⟨rfl,I.turned (λb o hb e=>kk b o (by simpa using hb) e) f0 f1 f3 f4 f5⟩
 self:=λA i s Q E st h=>sf A i s Q E st.2 h
theorem zqr:∀ bs:List Bool,(List.range bs.length).all (λi=>bs.getD i false)=bs.all id
  | []=>rfl
  | b::t=>by
    have ih:=zqr t
    rw[List.length_cons,List.range_succ_eq_map,List.all_cons,List.all_map,List.all_cons,<-ih]
    rfl
def iStr(tl:TE):TI:=λσ H R=>tl σ H λx H1=>∃ z,x=.str z/\R (Itx z) H1
section
variable{X:Cx}{tg:Expr}
theorem zabq{l:Expr}{tl:TE}(hl:PE X l tl):PI X tg l (iStr tl):=by
 intro pins s σ H R I h
 refine thn (hl pins s σ H _ I h) λv s1 ⟨x,H1,I1,r1,q1⟩=> ?_
 obtain⟨z,rfl,q⟩:=q1
 obtain⟨t,rfl⟩:=r1
 have fp1:∀ b∈[s1.heap.objs.size],FpOk X pins H1 b:=λb hb=>by
  have e:b=s1.heap.objs.size:=by simpa using hb
  subst e
  exact I1.fpOk (Nat.le_refl _) (I1.hok.fresh (Nat.le_refl _))
 cases ha:z.cps.all (· <128)
 ·refine wpAny_pyIter_wide ha ⟨s1.heap.objs.size,[s1.heap.objs.size],_,_,H1,rfl,I1.kept (t':=s1.toks) λb o e=>Heap.get?_push_of_some _ e,zs2 (nm:="str_iterator") (t:=t) (by decide) (λA hA=>Walks.strWide hA _ z t) (λA i s Q E st h=>wpAny_pyIter_striter_wide st h),⟨Nat.zero_le _,_,Heap.get?_push_size _ rfl,rfl,rfl⟩,fp1,q⟩
 ·refine wpAny_pyIter_ascii ha ⟨s1.heap.objs.size,[s1.heap.objs.size],_,_,H1,rfl,I1.kept (t':=s1.toks) λb o e=>Heap.get?_push_of_some _ e,zs2 (nm:="str_ascii_iterator") (t:=t) (by decide) (λA hA=>Walks.strAscii hA _ z t) (λA i s Q E st h=>wpAny_pyIter_striter_ascii st h),⟨Nat.zero_le _,_,Heap.get?_push_size _ rfl,rfl,rfl⟩,fp1,q⟩
def zms(K:PySem.W.Frag):List V->Hp->VK->Prop:=λxs H Q=>∃ x,xs=[.str x]/\x.length=1/\Q (.int (x.cps.getD 0 0:Nat)) H
def zrx(K:PySem.W.Frag):List V->Hp->VK->Prop:=λxs H Q=>∃ i j,xs=[.int i,.int j]/\Q (.int (if j > i then j else i)) H
def zge(K:PySem.W.Frag):List V->Hp->VK->Prop:=λxs H Q=>∃ (p:Addr) (bs:List Bool),xs=[.ref p]/\SqL K H p (bs.map V.bl)/\Q (.bl (bs.all id)) H
theorem zqs(hc:X.calm=true):CallR X (.builtin "all") (zge X.K):=by
 intro pins s σ H xs us Q I r h
 obtain⟨p,bs,rfl,hp,q⟩:=h
 obtain⟨u,rfl,ru⟩:=zp9 r
 cases ru
 obtain⟨its,rv,pl,hz⟩:=I.list hp
 have hl:=rv.length
 refine call_all_walk (wpAny_pyIter_list pl.isList ?_)
 have hne:p≠s.heap.objs.size:=by
  obtain⟨o,e,_⟩:=pl.isList
  exact Nat.ne_of_lt (Heap.lt_size e)
 refine⟨s.heap.objs.size,_,_,_,_,_,λi=>bs.getD i false,rfl,Walks.list (show X.A.in1.handled=none from I.ok.hd hc) s.heap.objs.size p hne its.toArray,⟨⟨_,Heap.get?_push_size _ rfl,rfl,rfl⟩,pl.isList.push _⟩,?_,?_⟩
 ·intro i v s' Q' E' hv hq
  have hv:its[i]? =some v:=by simpa using hv
  have hi:=(List.getElem?_eq_some_iff.mp hv).1
  rw[List.length_map]at hl
  obtain⟨b,hb⟩:∃ b,bs[i]? =some b:=⟨_,List.getElem?_eq_getElem (by omega)⟩
  obtain⟨u,hu,ru⟩:=rv.get (i:=i) (x:=V.bl b) (by rw[List.getElem?_map,hb];rfl)
  rw[hv]at hu
  cases hu
  cases (show v=Value.bool b from ru)
  have e:bs.getD i false=b:=by rw[List.getD_eq_getElem?_getD,hb];rfl
  have hq:Q' (bs.getD i false) s':=hq
  rw[e]at hq
  exact wpAny_pure hq
 ·intro h' tk kk
  have e:(List.range its.toArray.size).all (λi=>bs.getD i false)=bs.all id:=by
   rw[List.length_map]at hl
   rw[List.size_toArray,<-hl]
   exact zqr bs
  rw[e]
  exact⟨.bl _,H,I.kept (t':=tk) λb o eb=>kk b o (by simpa using Nat.ne_of_lt (Heap.lt_size eb)) (Heap.get?_push_of_some _ eb),rfl,q⟩
end
theorem zac0{K:PySem.W.Frag}{x:Str}{H:Hp}{Q:VK}:zms K [.str x] H Q=(x.length=1/\Q (.int (x.cps.getD 0 0:Nat)) H):=by simp[zms]
theorem zac1{K:PySem.W.Frag}{i j:Int}{H:Hp}{Q:VK}:zrx K [.int i,.int j] H Q=Q (.int (if j > i then j else i)) H:=propext ⟨λ⟨_,_,e,q⟩=>by cases e;exact q,λq=>⟨_,_,rfl,q⟩⟩
section
variable{P:Program}{w:World}{A:Around}{E:Value->Shared->Prop}{s:Shared}
end
section
variable{X:Cx}
def ups(k:Nat):List V:=(List.range k).map λ(i:Nat)=>V.int (i:Int)
end
theorem zqt{tl:TE}{g:TG}{tt:TT}{te:TE}{k:Nat}{cap:List Nat}{σ:St}{H:Hp}{Q:VK}:zjm (iStr tl) g tt te k cap σ H Q=(tl σ H λx H1=>∃ z,x=.str z/\zmr (Itx z) g tt te k cap σ H1 Q):=rfl
theorem zw4{te:TE}{cap:List Nat}{σ:St}{H:Hp}{Q:VK}{z:Str}(hn:z.cps.size<=sizeLine)(Pv:Nat->List V->Hp->Prop)(h0:Pv 0 [] H)(hs:∀ i c ys H,z.cps[i]? =some c->ys.length=i->Pv i ys H->te (some (.str ⟨#[c]⟩)::capV cap σ) H λy H2=>Pv (i+1) (ys++[y]) H2)
  (hd:∀ ys H,ys.length=z.cps.size->Pv z.cps.size ys H->∀ p,H p=none->Q (.ref p) (upd H p (.lst ys))):zmr (Itx z) (zbw 0) zg3 te 1 cap σ H Q:=by
 refine⟨λi m σ' ys H=>m=z.cps.size - i/\i<=z.cps.size/\ys.length=i/\(∃ x0,σ'=x0::capV cap σ)/\Pv i ys H,⟨z.cps.size,by simp,Nat.zero_le _,rfl,⟨none,rfl⟩,h0⟩,?_⟩
 rintro i m σ' ys H ⟨rfl,hi,hl,⟨x0,rfl⟩,p⟩
 by_cases hlt:i<z.cps.size
 ·refine .inr ⟨hlt,by omega,λx H' y=> ?_⟩
  obtain⟨e,c,hc,y⟩:=y
  subst e y
  simp only[zbw,zg3,if_true]
  refine⟨_,λy H4 q=>⟨z.cps.size - (i+1),by omega,rfl,hlt,?_,⟨_,rfl⟩,q⟩,hs i c ys _ hc hl p⟩
  rw[List.length_append,List.length_singleton,hl]
 ·have e:i=z.cps.size:=by omega
  subst e
  exact .inl ⟨Nat.le_refl _,hd ys H hl p⟩
end L2
set_option linter.all false
namespace L2
open PySem
abbrev zh4(l:List Nat):Prop:=l.Pairwise (· <·)
theorem zg4{l:List Nat}(R:zh4 l){i k a b:Nat}(h:i<k)(ha:l[i]? =some a)(hb:l[k]? =some b):a<b:=by
 obtain⟨h1,rfl⟩:=List.getElem?_eq_some_iff.mp ha
 obtain⟨h2,rfl⟩:=List.getElem?_eq_some_iff.mp hb
 exact List.pairwise_iff_getElem.mp R i k h1 h2 h
structure Below(xs:Array Nat)(j r:Nat):Prop where
 le:r<=xs.size
 lo:∀ i v,i<r->xs.toList[i]? =some v->v<j
 hi:∀ i v,r<=i->xs.toList[i]? =some v->j<=v
theorem zo9 {xs:Array Nat} {j:Nat} (R:zh4 xs.toList):∀ (fuel lo hi:Nat),lo<=hi->hi<=xs.size->hi - lo<=fuel->(∀ i v,i<lo->xs.toList[i]? =some v->v<j)->(∀ i v,hi<=i->xs.toList[i]? =some v->j<=v) →
    Below xs j (SetTable.below.go xs j fuel lo hi)
  | 0,lo,hi,h1,h2,h3,a,b=>by
    have e:lo=hi:=by omega
    subst e
    exact⟨h2,a,b⟩
  | fuel+1,lo,hi,h1,h2,h3,a,b=>by
    unfold SetTable.below.go
    by_cases hlt:lo<hi
    · rw [if_pos hlt]
      have hm:(lo+hi) / 2<xs.size:=by omega
      have em:xs.toList[(lo+hi) / 2]? =some (xs[(lo+hi) / 2]):=by simp[hm]
      have ed:xs.getD ((lo+hi) / 2) j=xs[(lo+hi) / 2]:=by simp[hm]
      simp only[ed]
      split
      · rename_i hv
        refine zo9 R fuel _ _ (by omega) h2 (by omega) (λi v hi' e=> ?_) b
        by_cases q:i=(lo+hi) / 2
        ·subst q;rw[em]at e;cases e;exact hv
        ·exact Nat.lt_trans (zg4 R (show i<(lo+hi) / 2 by omega) e em) hv
      · rename_i hv
        refine zo9 R fuel _ _ (by omega) (by omega) (by omega) a λi v hi' e=> ?_
        by_cases q:i=(lo+hi) / 2
        ·subst q;rw[em]at e;cases e;omega
        · have:=zg4 R (show(lo+hi) / 2<i by omega) em e
          omega
    · rw[if_neg hlt]
      have e:lo=hi:=by omega
      subst e
      exact⟨h2,a,b⟩
theorem zpa{xs:Array Nat}{j:Nat}(R:zh4 xs.toList):Below xs j (SetTable.below xs j) :=
 zo9 R _ _ _ (Nat.zero_le _) (Nat.le_refl _) (by omega) (λ_ _ h=>absurd h (Nat.not_lt_zero _)) λi v h e=>by
  rw[List.getElem?_eq_none (by simpa using h)]at e;cases e
theorem Below.uniq{xs:Array Nat}{j r r':Nat}(a:Below xs j r)(b:Below xs j r'):r=r':=by
 rcases Nat.lt_trichotomy r r' with h | h | h
 ·have hs:r<xs.size:=Nat.lt_of_lt_of_le h b.le
  have e:xs.toList[r]? =some (xs[r]):=by simp[hs]
  have:=b.lo _ _ h e
  have:=a.hi _ _ (Nat.le_refl _) e
  omega
 ·exact h
 ·have hs:r'<xs.size:=Nat.lt_of_lt_of_le h a.le
  have e:xs.toList[r']? =some (xs[r']):=by simp[hs]
  have:=a.lo _ _ h e
  have:=b.hi _ _ (Nat.le_refl _) e
  omega
def NotIn(t:SetTable)(j:Nat):Prop:=t.place[SetTable.below t.place j]? ≠some j
theorem zry{t:SetTable}{j:Nat}(h:t.slot j=.empty):NotIn t j:=λe=>by
 unfold SetTable.slot at h
 simp only[e,beq_self_eq_true,if_true]at h
 cases h
theorem zrz{t:SetTable}{j:Nat}(h:t.slot j=.dummy):NotIn t j:=λe=>by
 unfold SetTable.slot at h
 simp only[e,beq_self_eq_true,if_true]at h
 cases h
theorem zjq(t:SetTable)(p:SetTable.Probe):(t.advance p).dummy=p.dummy:=by
 unfold SetTable.advance
 split<;>rfl
theorem zpb{t:SetTable}{f:Nat->Int}{h:Int}:∀ (fuel:Nat) (p:SetTable.Probe) (j:Nat) (d:Option Nat),SetTable.probe.go t f h fuel p=some (.empty j d)->(∀ x,p.dummy=some x->NotIn t x)->NotIn t (d.getD j)
  | 0,p,j,d,e,_=>by cases e
  | fuel+1,p,j,d,e,hd=>by
    unfold SetTable.probe.go at e
    split at e
    · rename_i hs
      cases e
      cases q:p.dummy with
      | none=>exact zry hs
      | some x=>exact hd x q
    · rename_i hs
      refine zpb fuel _ j d e λx hx=> ?_
      rw[zjq]at hx
      cases hx
      exact zrz hs
    · rename_i i hs
      split at e
      ·cases e
      ·exact zpb fuel _ j d e λx hx=>by rw[zjq]at hx;exact hd x hx
theorem znp{t:SetTable}{h:Int}{s:Nat}{b:Bool}(e:t.freeSlot h=some (s,b)):NotIn t s:=by
 unfold SetTable.freeSlot at e
 split at e
 ·rename_i j d hp
  cases e
  refine zpb _ _ _ _ hp λx hx=> ?_
  cases hx
 ·cases e
theorem zqu(n:Nat):zh4 (Array.range n).toList:=by
 rw[Array.toList_range]
 exact List.pairwise_lt_range
theorem ztr {t:SetTable} {j:Nat} (R:zh4 t.place.toList) (h:NotIn t j):zh4 (t.put j).1.place.toList:=by
  have b:=zpa (j:=j) R
  show zh4 (SetTable.insertAt t.place (SetTable.below t.place j) j).toList
  rw[SetTable.toList_insertAt]
  have hlo:∀ v∈t.place.toList.take (SetTable.below t.place j),v<j:=λv hv=>by
    obtain⟨i,hi,e⟩:=List.getElem_of_mem hv
    have hi':i<SetTable.below t.place j:=by rw[List.length_take]at hi;omega
    refine b.lo i v hi' ?_
    rw[<-e];simp only[List.getElem_take];exact List.getElem?_eq_getElem _
  have hhi:∀ v∈t.place.toList.drop (SetTable.below t.place j),j<v:=λv hv=>by
    obtain⟨i,hi,e⟩:=List.getElem_of_mem hv
    have e2:t.place.toList[SetTable.below t.place j+i]? =some v:=by
      rw[<-List.getElem?_drop,List.getElem?_eq_getElem hi,e]
    have:=b.hi _ _ (Nat.le_add_right _ _) e2
    by_cases q:j=v
    · subst q
      have z:i=0:=by
        by_cases z:i=0
        ·exact z
        · have hl:SetTable.below t.place j<t.place.toList.length:=by
            rw[List.length_drop]at hi;omega
          have e3:=List.getElem?_eq_getElem hl
          have:=zg4 R (show SetTable.below t.place j<SetTable.below t.place j+i by omega) e3 e2
          have:=b.hi _ _ (Nat.le_refl _) e3
          omega
      subst z
      rw[Nat.add_zero,Array.getElem?_toList]at e2
      exact absurd e2 h
    ·omega
  refine List.pairwise_append.mpr ⟨R.sublist (List.take_sublist ..),List.pairwise_cons.mpr ⟨hhi,R.sublist (List.drop_sublist ..)⟩,λx hx y hy=> ?_⟩
  rcases List.mem_cons.mp hy with rfl | hy
  ·exact hlo x hx
  ·exact Nat.lt_trans (hlo x hx) (hhi y hy)
structure Led(led:Bool)(t:SetTable):Prop where
 rise:zh4 t.place.toList
 led:t.led=led
theorem Led.standIn{led:Bool}{t:SetTable}(h:t.led=led)(n:Nat):Led led (t.standIn n):=⟨zqu n,h⟩
theorem Led.or{led:Bool}{t:SetTable}(h:Led led t)(n:Nat):Led led (t.orStandIn n):=by
 unfold SetTable.orStandIn
 split
 ·exact h
 ·exact .standIn h.led n
theorem Led.layNew{led:Bool}{t:SetTable}(L:Led led t)(es:Array (Int × Value))(h:Int)(x:Value):Led led (layNew t es h x).2.1:=by
 unfold PySem.layNew
 split
 ·rename_i slot b e
  exact Led.or ⟨ztr L.rise (znp e),L.led⟩ _
 ·exact .standIn L.led _
theorem zr0(owner:Array (Option Nat))(m:Nat):zh4 (((List.range m).filterMap λj=>(owner.getD j none).map (j,·)).map (·.1)):=by
 rw[List.map_filterMap]
 refine(List.pairwise_lt_range (n:=m)).filterMap _ λa b hab x hx y hy=> ?_
 simp only[Option.mem_def,Option.map_map,Option.map_eq_some_iff,Function.comp_apply]at hx hy
 obtain⟨_,_,rfl⟩:=hx
 obtain⟨_,_,rfl⟩:=hy
 exact hab
theorem Led.relayAll{led:Bool}{t:SetTable}(h:t.led=led)(L:Led led t)(es:Array (Int × Value))(wanted:Nat):Led led (relayAll t es wanted).2.1:=by
 unfold PySem.relayAll
 split
 ·rename_i t' order e
  dsimp only
  split
  ·unfold SetTable.relaid SetTable.laid at e
   simp only[Option.bind_eq_bind,Option.bind_eq_some_iff,Option.pure_def,Option.some.injEq,Prod.mk.injEq]at e
   obtain⟨owner,_,rfl,_⟩:=e
   exact⟨by simpa using zr0 owner _,h⟩
  ·exact .standIn h _
 ·exact .standIn h _
theorem Led.plainOff{led:Bool}{t:SetTable}(L:Led led t):Led led { t with plain:=false }:=⟨L.rise,L.led⟩
theorem Led.fresh(led:Bool):Led led (.fresh 0 0 led):=⟨List.Pairwise.nil,rfl⟩
def zop(xs:Array Nat):Nat->Nat
 | 0=>0
 | i+1=>xs.getD i 0+1
theorem zqv {xs:Array Nat} (R:zh4 xs.toList):∀ {i:Nat},i<=xs.size->SetTable.below xs (zop xs i)=i
  | 0,_=>(zpa R).uniq ⟨Nat.zero_le _,λ_ _ h=>absurd h (Nat.not_lt_zero _),λ_ _ _ _=>Nat.zero_le _⟩
  | i + 1,hi=>(zpa R).uniq ⟨hi,λk v hk e=>by
      have hi':i<xs.size:=by omega
      have ei:xs.toList[i]? =some xs[i]:=by simp[hi']
      have ed:xs.getD i 0=xs[i]:=by simp[hi']
      show v<xs.getD i 0+1
      rw[ed]
      by_cases q:k=i
      ·subst q;rw[ei]at e;cases e;omega
      · have:=zg4 R (show k<i by omega) e ei
        omega,λk v hk e=>by
      have hi':i<xs.size:=by omega
      have ei:xs.toList[i]? =some xs[i]:=by simp[hi']
      have ed:xs.getD i 0=xs[i]:=by simp[hi']
      show xs.getD i 0+1<=v
      rw[ed]
      exact zg4 R (show i<k by omega) ei e⟩
theorem zu9{α :Type}(next:Nat->Nat):∀ (fuel k:Nat) (left:List α) (out:Array α),left.length=fuel->List.Perm (pickOrder.go next fuel k left out).toList (out.toList++left)
  | 0,k,left,out,h=>by
    rw[List.length_eq_zero_iff.mp h]
    unfold pickOrder.go
    simp
  | fuel+1,k,left,out,h=>by
    unfold pickOrder.go
    have hl:next k % left.length<left.length:=Nat.mod_lt _ (by omega)
    rw[List.getElem?_eq_getElem hl]
    dsimp only
    refine(zu9 next fuel (k+1) _ _ (by rw[List.length_eraseIdx_of_lt hl];omega)).trans ?_
    rw[Array.toList_push,List.append_assoc]
    refine List.Perm.append_left _ ?_
    rw[List.eraseIdx_eq_take_drop_succ]
    show List.Perm (left[next k % left.length]::(left.take (next k % left.length)++left.drop (next k % left.length+1))) left
    refine List.perm_middle.symm.trans ?_
    rw[<-List.drop_eq_getElem_cons hl,List.take_append_drop]
theorem zva{α :Type}(next:Nat->Nat)(xs:Array α):List.Perm (pickOrder next xs).toList xs.toList:=by
 have:=zu9 next xs.size 0 xs.toList #[] (by simp)
 simpa [pickOrder]using this
end L2
set_option linter.all false
set_option maxRecDepth 100000
namespace L2
open PySem PyProof.Rows
def zr1(w:World):Bool:= !w.params.followText "set-order"
def iv:Value->Int
 | .int n _=>n
 | _=>0
def IntSet (P:Program) (w:World) (h:Heap) (a:Addr) (ms:List Int):Prop :=
  ∃ (o:Obj) (es:Array (Int × Value)) (ep:Nat) (t:SetTable),h.get? a=some o/\o.ExactSet/\o.data=.set es ep t/\ElemsOf (intKind P w) es.toList ∧
    List.Perm (es.toList.map λe=>iv e.2) ms/\es.size<scanBound/\t.fits es.size=true/\Led (zr1 w) t
section
variable{P:Program}{w:World}{A:Around}{E:Value->Shared->Prop}{s:Shared}
theorem zpc{es:List (Int × Value)}(h:ElemsOf (intKind P w) es){e:Int × Value}(he:e∈es):∃ t,e.2=.int (iv e.2) t:=by
 obtain⟨⟨k,hk,_⟩,_⟩:=h e he
 obtain⟨t,z⟩:=Value.isInt_shape hk
 exact⟨t,by rw[z];rfl⟩
theorem zvb{es:List (Int × Value)}(h:ElemsOf (intKind P w) es){e:Int × Value}(he:e∈es){k:Int}:(intKind P w).is k e.2=true↔iv e.2=k:=by
 obtain⟨t,z⟩:=zpc h he
 rw[z]
 refine⟨λq=> ?_,λq=> ?_⟩
 ·have q':Value.isInt k (.int (iv e.2) t)=true:=q
  obtain⟨t',z'⟩:=Value.isInt_shape q'
  cases z';rfl
 ·rw[<-q];exact intKind_is ..
theorem zqw{es:List (Int × Value)}{ms:List Int}(h:ElemsOf (intKind P w) es)(p:List.Perm (es.map λe=>iv e.2) ms)(k:Int):k∈ms↔∃ e∈es,(intKind P w).is k e.2=true:=by
 rw[<-p.mem_iff,List.mem_map]
 exact⟨λ⟨e,he,q⟩=>⟨e,he,(zvb h he).mpr q⟩,λ⟨e,he,q⟩=>⟨e,he,(zvb h he).mp q⟩⟩
theorem zvc{h:Heap}{a:Addr}{o:Obj}{es es':Array (Int × Value)}{ep:Nat}{t t':SetTable}{ms:List Int}(ho:h.get? a=some o)(hex:o.ExactSet)(hd:o.data=.set es ep t)
  (hel:ElemsOf (intKind P w) es'.toList) (hp:List.Perm (es'.toList.map λe=>iv e.2) ms) (hb:es'.size<scanBound) (hf:t'.fits es'.size=true) (L:Led (zr1 w) t') :
  (h.update a (Obj.putSet es' t')).get? a=some { o with data:=.set es' (ep+1) t' }/\IntSet P w (h.update a (Obj.putSet es' t')) a ms:=by
 have g:=(SetOf_store (knd:=intKind P w) (S':=λk=>es'.toList.any λe=>(intKind P w).is k e.2) ho hex hd hel (λk=>by rw[List.any_eq_true]) hb hf).1
 exact⟨g,_,es',ep+1,t',g,hex,rfl,hel,hp,hb,hf,L⟩
theorem zs3 {g:Bool->Sem Unit} (hg:∀ (b:Bool) (s1:Shared) (R:Unit->Shared->Prop),R () s1->wpAny (model P w) A (g b) R E s1) {a:Addr} {o:Obj} {es e1:Array (Int × Value)} {ep:Nat} {t t1:SetTable} {ms:List Int} {wd:Bool}
    (ho:s.heap.get? a=some o) (hex:o.ExactSet) (hd:o.data=.set es ep t) (hel:ElemsOf (intKind P w) e1.toList) (hp:List.Perm (e1.toList.map λe=>iv e.2) ms) (hb:e1.size<scanBound) (hf:t1.fits e1.size=true) (L:Led (zr1 w) t1)
    {R:Option Bool->Shared->Prop} (h:∀ h',Heap.SameBut a s.heap h'->IntSet P w h' a ms->R (some true) { s with heap:=h' }) :
    wpAny (model P w) A (do
      storeSet a e1 t1
      if(!wd && t1.tooFull)=true then do
        g (relayAll t1 e1 (SetTable.grown e1.size)).2.2
        storeSet a (relayAll t1 e1 (SetTable.grown e1.size)).1 (relayAll t1 e1 (SetTable.grown e1.size)).2.1
        pure (some true)
      else pure (some true)) R E s:=by
  refine wpAny_bind (wpAny_storeSet_of ho hd ?_ (fits_of_scanBound hb))
  obtain⟨g1,S1⟩:=zvc ho hex hd hel hp hb hf L
  have sb1:=Heap.SameBut.update s.heap a (Obj.putSet e1 t1)
  split
  · have p2:=relayAll_perm t1 e1 (SetTable.grown e1.size)
    have f2:=relayAll_fits t1 e1 (SetTable.grown e1.size)
    have L2:=Led.relayAll L.led L e1 (SetTable.grown e1.size)
    revert p2 f2 L2
    generalize relayAll t1 e1 (SetTable.grown e1.size)=r
    obtain⟨e2,t2,gv⟩:=r
    intro p2 f2 L2
    dsimp only at p2 f2 L2 ⊢
    have z2:e2.size=e1.size:=by rw[<-Array.length_toList,p2.length_eq,Array.length_toList]
    have b2:e2.size<scanBound:=z2 ▸ hb
    refine wpAny_bind (hg _ _ _ ?_)
    refine wpAny_bind (wpAny_storeSet_of g1 rfl ?_ (fits_of_scanBound b2))
    obtain⟨_,S2⟩:=zvc (P:=P) (w:=w) g1 hex rfl (hel.perm p2) ((p2.map _).trans hp) b2 f2 L2
    exact wpAny_pure (h _ (sb1.trans (Heap.SameBut.update ..)) S2)
  ·exact wpAny_pure (h _ sb1 S1)
theorem zqx{ms:List Int}{k:Int}(h:k∈ms):step_dedup ms k=ms:=by
 unfold step_dedup
 have e:(ms.any λx=>x == k)=true:=List.any_eq_true.mpr ⟨k,h,beq_self_eq_true k⟩
 rw[if_pos e]
theorem zqy{ms:List Int}{k:Int}(h:¬ k∈ms):step_dedup ms k=ms++[k]:=by
 unfold step_dedup
 rw[if_neg λz=> ?_]
 obtain⟨x,hx,q⟩:=List.any_eq_true.mp z
 rw[beq_iff_eq]at q
 exact h (q ▸ hx)
theorem zabr {a:Addr} {ms:List Int} {k:Int} {tk:Tok} {Q:Bool->Shared->Prop} (hS:IntSet P w s.heap a ms) (hr:ms.length+1<scanBound)
    (h:∀ (b:Bool) h',Heap.SameBut a s.heap h'->IntSet P w h' a (step_dedup ms k)->Q b { s with heap:=h' }):wpAny (model P w) A (setAddHashed a (.int k tk) ((intKind P w).hash k)) Q E s:=by
  have hk:(intKind P w).is k (.int k tk)=true:=intKind_is ..
  have hsc:(Value.int k tk).scannable=true:=rfl
  generalize Value.int k tk=x at hk hsc
  obtain⟨o,es,ep,t,ho,hex,hd,hel,hp,hb,hf,L⟩:=hS
  have hlen:es.size=ms.length:=by rw[<-hp.length_eq,List.length_map,Array.length_toList]
  have hivx:iv x=k:=by obtain⟨_,z⟩:=Value.isInt_shape hk;rw[z];rfl
  unfold setAddHashed setAddHashedIn
  refine wpAny_holding (wpAny_bind (wpAny_setState_of ho hd hf ?_))
  dsimp only
  rw[byScan_of hsc hb hel,if_pos rfl]
  unfold setAddByScan
  refine wpAny_bind (wpAny_bind (wpAny_rule (wpAny_bind (wpAny_setScan_of hk ho hd hf hel ?_))))
  cases hx:es.toList.findIdx? (λe=>(intKind P w).is k e.2)with
  | some j =>
    dsimp only
    obtain⟨hj,pj,_⟩:=List.findIdx?_eq_some_iff_getElem.mp hx
    have hm:k∈ms:=(zqw hel hp k).mpr ⟨_,List.getElem_mem hj,pj⟩
    refine wpAny_pure (wpAny_pure ?_)
    have:=h false s.heap (Heap.SameBut.refl a s.heap) ⟨o,es,ep,t,ho,hex,hd,hel,by rw[zqx hm];exact hp,hb,hf,L⟩
    exact this
  | none =>
    dsimp only
    have hm:¬ k∈ms:=λz=>by
      obtain⟨e,he,q⟩:=(zqw hel hp k).mp z
      have:=List.findIdx?_eq_none_iff.mp hx e he
      rw[q]at this;cases this
    have p1:=layNew_perm t es ((intKind P w).hash k) x
    have f1:=layNew_fits t es ((intKind P w).hash k) x
    have L1:=L.layNew es ((intKind P w).hash k) x
    revert p1 f1 L1
    generalize layNew t es ((intKind P w).hash k) x=r
    obtain⟨e1,t1,wd,gv⟩:=r
    intro p1 f1 L1
    dsimp only at p1 f1 L1 ⊢
    rw[Array.toList_push]at p1
    have hel1:ElemsOf (intKind P w) e1.toList:=(hel.push hk hsc).perm p1
    have hp1:List.Perm (e1.toList.map λe=>iv e.2) (step_dedup ms k):=by
      rw[zqy hm]
      refine(p1.map _).trans ?_
      rw[List.map_append,List.map_cons,List.map_nil,hivx]
      exact List.Perm.append_right _ hp
    have hb1:e1.size<scanBound:=by
      rw[<-Array.length_toList,p1.length_eq,List.length_append,Array.length_toList,hlen]
      exact hr
    have gw:∀ (b:Bool) (s1:Shared) (R:Unit->Shared->Prop),R () s1 →
        wpAny (model P w) A (match b with
          | true=>rule "set.scan.the-table-gave-way"
          | false=>pure ()) R E s1:=λb s1 R q=>by
      cases b
      ·exact wpAny_pure q
      ·exact wpAny_rule q
    refine wpAny_bind (gw _ _ _ ?_)
    split
    · refine wpAny_bind ?_
      rw[hashByValue_scannable 8 hsc]
      refine wpAny_pure (zs3 ?_ ho hex hd hel1 hp1 hb1 ?_ ?_ λh' sb S'=> ?_)
      · intro b s1 R q
        cases b
        ·exact wpAny_pure q
        ·exact wpAny_rule q
      · split
        ·exact f1
        ·exact SetTable.fits_plain_off f1
      · split
        ·exact L1
        ·exact L1.plainOff
      ·dsimp only;exact wpAny_pure (h _ h' sb S')
    · refine wpAny_bind (wpAny_pure ?_)
      rw[if_pos rfl]
      refine zs3 ?_ ho hex hd hel1 hp1 hb1 f1 L1 λh' sb S'=> ?_
      · intro b s1 R q
        cases b
        ·exact wpAny_pure q
        ·exact wpAny_rule q
      ·dsimp only;exact wpAny_pure (h _ h' sb S')
theorem IntSet.at{h h':Heap}{a:Addr}{ms:List Int}(x:IntSet P w h a ms)(k:∀ o,h.get? a=some o->h'.get? a=some o):IntSet P w h' a ms:=by
 obtain⟨o,es,ep,t,ho,r⟩:=x
 exact⟨o,es,ep,t,k _ ho,r⟩
end
section
variable{P:Program}{w:World}{A:Around}{R:Result->Shared->Prop}{I:Addr}{fp wr:List Addr}{G:Array GenState->Array GenState->Prop}{n:Nat}{T:Nat->Value->Prop}{St:Nat->Shared->Prop}
theorem zvd(W:WalksS P w A.in1 I fp wr G n T St)(a:Addr)(ha:a∉fp)(val:Nat->Int)(hv:∀ i v,T i v->∃ t,v=.int (val i) t)(hb:n+1<scanBound):∀ (k i:Nat) (s:Shared),n - i=k->i<=n->St i s →
    IntSet P w s.heap a (firstMet val i)->(∀ s',Moved (a::wr) G s s'->IntSet P w s'.heap a (firstMet val n)->R (.ok (.ret .none)) s') →
    codeAny (model P w) A (.builtin "set.update.loop" ⟨[.ref a,.ref I],[]⟩) R s:=by
  have haw:a∉wr:=λz=>ha (W.sub _ z)
  have up:∀ b∈wr,b∈a::wr:=λb q=>List.mem_cons_of_mem _ q
  intro k
  induction k with
  | zero =>
    intro i s e1 e2 st S q
    obtain rfl:i=n:=by omega
    refine codeAny_builtin PyProof.Rows.F.entry_set_update_loop ?_
    rw[Around.under_plainId PyProof.Rows.F.plain_set_update_loop _]
    show wpAny _ A.in1 (pyNext (.ref I) >>= _) _ _ s
    refine wpAny_bind (W.done s _ _ st λs' m=> ?_)
    show wpAny _ A.in1 (ret Value.none) _ _ s'
    exact wpAny_pure (q s' (m.mono up) (S.at λo e=>m.heap a o haw e))
  | succ k ih =>
    intro i s e1 e2 st S q
    have hi:i<n:=by omega
    refine codeAny_builtin PyProof.Rows.F.entry_set_update_loop ?_
    rw[Around.under_plainId PyProof.Rows.F.plain_set_update_loop _]
    show wpAny _ A.in1 (pyNext (.ref I) >>= _) _ _ s
    refine wpAny_bind (W.item i s _ _ hi st λv s1 tv st1 m=> ?_)
    obtain⟨t,rfl⟩:=hv i v tv
    have S1:=S.at λo e=>m.heap a o haw e
    show wpAny _ A.in1 (holding [Value.int (val i) t] (setAdd a (.int (val i) t)) >>= _) _ _ s1
    refine wpAny_bind (wpAny_holding ?_)
    unfold setAdd
    refine wpAny_holding (wpAny_bind ((intKind P w).pyHash (k:=val i) (intKind_is ..) ?_))
    refine zabr (s:={ s1 with toks:=s1.toks+1 }) S1 (by have:=firstMet_length_le val i;omega) λb h' sb S2=> ?_
    rw[<-firstMet_succ]at S2
    refine wpAny_pure ⟨plainId_quiet PyProof.Rows.F.plain_set_update_loop _,ih (i+1) _ (by omega) hi (W.frame _ s1 _ _ st1 (Nat.le_succ _) λb hb o e=> ?_) S2 λs2 m2 S3=> ?_⟩
    ·rw[sb.2 b λz:b=a=>ha (z ▸ hb)];exact e
    · refine q s2 (Moved.trans W.gtrans ((m.mono up).then_heap (Nat.le_succ _) λb o hb e=> ?_) m2) S3
      rw[sb.2 b λz:b=a=>hb (z ▸ List.mem_cons_self)];exact e
end
section
variable{P:Program}{w:World}{A:Around}{E:Value->Shared->Prop}{s:Shared}
theorem zzr{x:Value}{Q:Value->Shared->Prop}(h:Q (.ref s.heap.objs.size) { s with heap:=s.heap.push { cls:=.type "set",dict:=none,data:=.set #[] 0 (.fresh 0 0 (zr1 w)) } }) :
  codeAny (model P w) A (.call (.builtin "set.__new__") ⟨[.type "set",x],[]⟩) (wants Q E) s:=by
 refine codeAny_of_tree ?_
 show wpAny _ A.in1 (checkBuiltinCall "set.__new__" ⟨[.type "set",x],[]⟩ >>= λ_=>again (.builtin "set.__new__" ⟨[.type "set",x],[]⟩)) _ _ s
 refine wpAny_bind (wpAny_of_eq (PySem.F.newCall_set_1 x) (wpAny_pure ⟨plainId_quiet PySem.F.plain_set_new _,codeAny_builtin PySem.F.entry_set_new ?_⟩))
 rw[Around.under_plainId PySem.F.plain_set_new _]
 unfold Builtin.«set.__new__» Builtin.Frozenset.newClass
 have e:=sub_set_self
 obtain⟨hp,g,d,tk,os⟩:=s
 dsimp only
 wp_walk
 refine wpAny_askSetting (wpAny_pure ?_)
 dsimp only
 simp only[newObj]
 exact wpAny_bind (wpAny_alloc (wpAny_pure (wpAny_pure h)))
end
end L2
set_option linter.all false
set_option maxRecDepth 100000
namespace L2
open PySem PyProof.Rows
abbrev zmt(f:Value)(i:Nat)(a:Addr)(n ep:Nat):Obj:={ cls:=.type "set_iterator",dict:=none,data:=.fields #[f,rawInt i,.ref a,rawInt n,rawInt ep],slots:= #[] }
theorem slot_sit_next:Slot "set_iterator" "__next__" "set_iterator.__next__" :=
 .of (owner:="set_iterator") (n:="__next__") (by rw[typeLookup_type,builtinLookup_eq_fast];kernel_rfl) (by decide +kernel) (by decide +kernel) (by decide +kernel)
  (by first | exact .inl (by decide +kernel) | exact .inr (by decide +kernel))
  (by rw[isSubtype_type];kernel_rfl)
theorem zem:entryFor table "set_iterator.__next__"=some Builtin.«set_iterator.__next__» :=entryFor_of_fast (by kernel_rfl)
theorem ze7(a:Value):argsOk "set_iterator.__next__" ⟨[a],[]⟩:=by
 unfold argsOk
 kernel_rfl
theorem zjr:Slot "set_iterator" "__iter__" "set_iterator.__iter__" :=
 .of (owner:="set_iterator") (n:="__iter__") (by rw[typeLookup_type,builtinLookup_eq_fast];kernel_rfl) (by decide +kernel) (by decide +kernel) (by decide +kernel)
  (by first | exact .inl (by decide +kernel) | exact .inr (by decide +kernel))
  (by rw[isSubtype_type];kernel_rfl)
section
variable{P:Program}{w:World}{A:Around}{E:Value->Shared->Prop}{s:Shared}
theorem zve{it a:Addr}{sl i n ep nx:Nat}{x:Value}{o:Obj}{es:Array (Int × Value)}{ep':Nat}{t:SetTable}{Q:Option Value->Shared->Prop}(hit:s.heap.get? it=some (zmt (rawInt sl) i a n ep))
  (ho:s.heap.get? a=some o) (hd:o.data=.set es ep' t) (hf:t.fits es.size=true) (hn:es.size=n)
  (hs:∀ (A':Around) (E':Value->Shared->Prop) (Q':Option (Value × Nat)->Shared->Prop),Q' (some (x,nx)) s->wpAny (model P w) A' (setNext a sl i ep) Q' E' s)
  (q:∀ h',h'.get? it=some (zmt (rawInt nx) (i+1) a n ep)->Heap.SameBut it s.heap h'->Q (some x) { s with heap:=h' }):wpAny (model P w) A (pyNext (.ref it)) Q E s:=by
 have T:s.TypeIs (.ref it) "set_iterator":=⟨_,hit,rfl⟩
 unfold pyNext
 refine wpAny_bind (wpAny_attempt (wpAny_callSpecial?_slot (name:=Str.ofString "__next__") T slot_sit_next (wpAny_call_entry slot_sit_next T zem ?_ (ze7 _))))
 unfold Builtin.«set_iterator.__next__»
 refine wpAny_bind (wpAny_pure ?_)
 refine wpAny_bind (wpAny_fieldsOf hit rfl ?_)
 show wpAny _ _ (setEntries a >>= _) _ _ s
 refine wpAny_bind (wpAny_setEntries_of ho hd hf ?_)
 rw[if_neg (by rw[hn];simp)]
 show wpAny _ _ (setNext a (sl:Int).toNat (i:Int).toNat (ep:Int).toNat >>= _) _ _ s
 rw[Int.toNat_natCast,Int.toNat_natCast,Int.toNat_natCast]
 refine wpAny_bind (hs _ _ _ ?_)
 dsimp only
 refine wpAny_bind (wpAny_setField_rec hit (by simp) λh1 g1 b1=> ?_)
 refine wpAny_bind (wpAny_setField_rec g1 (by simp) λh2 g2 b2=> ?_)
 exact wpAny_pure ⟨_,rfl,wpAny_pure (q h2 g2 (b1.trans b2))⟩
theorem zvf{it:Addr}{h1:Heap}{Q:Except Value (Option Value)->Shared->Prop}(hh:A.handled=none)(hx:Heap.ExtBut it s.heap h1)
  (q:∀ h' e,Heap.ExtBut it s.heap h'->({ s with heap:=h' }:Shared).TypeIs e "StopIteration"->Q (.error e) { s with heap:=h' }) :
  wpAny (model P w) A (newExc (.type "StopIteration") [] >>= raiseNew (α :=Fin)) (λ_ _=>False) (λe=>Q (.error e)) { s with heap:=h1 }:=by
 refine wpAny_bind ?_
 simp only[newExc,newTuple]
 refine wpAny_bind (wpAny_newObj_type ?_ (by size_fits))
 refine wpAny_bind (m:=firstArgMember _ _) (wpAny_of_eq (a:=Value.none) (by first | rfl | (simp only[firstArgMember];rfl)) ?_)
 refine wpAny_newObj_type ?_ (by size_fits)
 simp only[raiseNew]
 refine wpAny_bind (wpAny_handled ?_)
 rw[hh]
 refine wpAny_bind (wpAny_pure (wpAny_throw ?_))
 exact q _ _ ((hx.push _).push _) ⟨_,Heap.get?_push_size _ rfl,rfl⟩
theorem zvg{it a:Addr}{sl i n ep:Nat}{o:Obj}{es:Array (Int × Value)}{ep':Nat}{t:SetTable}{Q:Option Value->Shared->Prop}(hh:A.handled=none)(hit:s.heap.get? it=some (zmt (rawInt sl) i a n ep))
  (ho:s.heap.get? a=some o) (hd:o.data=.set es ep' t) (hf:t.fits es.size=true) (hn:es.size=n)
  (hs:∀ (A':Around) (E':Value->Shared->Prop) (Q':Option (Value × Nat)->Shared->Prop),Q' none s->wpAny (model P w) A' (setNext a sl i ep) Q' E' s)
  (q:∀ h',Heap.ExtBut it s.heap h'->Q none { s with heap:=h' }):wpAny (model P w) A (pyNext (.ref it)) Q E s:=by
 have T:s.TypeIs (.ref it) "set_iterator":=⟨_,hit,rfl⟩
 unfold pyNext
 refine wpAny_bind (wpAny_attempt (wpAny_callSpecial?_slot (name:=Str.ofString "__next__") T slot_sit_next (wpAny_call_entry slot_sit_next T zem ?_ (ze7 _))))
 unfold Builtin.«set_iterator.__next__»
 refine wpAny_bind (wpAny_pure ?_)
 refine wpAny_bind (wpAny_fieldsOf hit rfl ?_)
 show wpAny _ _ (setEntries a >>= _) _ _ s
 refine wpAny_bind (wpAny_setEntries_of ho hd hf ?_)
 rw[if_neg (by rw[hn];simp)]
 show wpAny _ _ (setNext a (sl:Int).toNat (i:Int).toNat (ep:Int).toNat >>= _) _ _ s
 rw[Int.toNat_natCast,Int.toNat_natCast,Int.toNat_natCast]
 refine wpAny_bind (hs _ _ _ ?_)
 dsimp only
 refine wpAny_bind (wpAny_setField_rec hit (by simp) λh1 g1 b1=> ?_)
 refine wpAny_mono (zvf (s:=s) (it:=it) (A:=A.in1) (Q:=λr s'=>match r with
  | .error e=>wpAny (model P w) A (isInstance e (.type "StopIteration") >>= λb=>if b=true then pure none else throw e) Q E s'
  | _=>False) (by simpa using hh) b1.extBut λh' e hx te=> ?_) (λ_ _ z=>z.elim) (λe s' z=>z)
 refine wpAny_bind (wpAny_isInstance (T:="StopIteration") (b:=true) te isSubtype_stop ?_)
 exact wpAny_pure (q _ hx)
theorem zts{it a tp:Addr}{i n ep pl:Nat}{ot:Obj}{ps:Array Value}{k:Nat}{x:Int × Value}{o:Obj}{es:Array (Int × Value)}{t:SetTable}{Q:Option Value->Shared->Prop}(hit:s.heap.get? it=some (zmt (.ref tp) i a n ep))
  (ho:s.heap.get? a=some o) (hd:o.data=.set es ep t) (hf:t.fits es.size=true) (hn:es.size=n) (ht:s.heap.get? tp=some ot) (hdt:ot.data=.seq ps k) (hp:ps[i]? =some (rawInt pl)) (hx:es[pl]? =some x)
  (q:∀ h',h'.get? it=some (zmt (.ref tp) (i+1) a n ep)->Heap.SameBut it s.heap h'->Q (some x.2) { s with heap:=h' }):wpAny (model P w) A (pyNext (.ref it)) Q E s:=by
 have T:s.TypeIs (.ref it) "set_iterator":=⟨_,hit,rfl⟩
 unfold pyNext
 refine wpAny_bind (wpAny_attempt (wpAny_callSpecial?_slot (name:=Str.ofString "__next__") T slot_sit_next (wpAny_call_entry slot_sit_next T zem ?_ (ze7 _))))
 unfold Builtin.«set_iterator.__next__»
 refine wpAny_bind (wpAny_pure ?_)
 refine wpAny_bind (wpAny_fieldsOf hit rfl ?_)
 show wpAny _ _ (setEntries a >>= _) _ _ s
 refine wpAny_bind (wpAny_setEntries_of ho hd hf ?_)
 rw[if_neg (by rw[hn];simp)]
 show wpAny _ _ (seqItems? (.ref tp) >>= _) _ _ s
 refine wpAny_bind (wpAny_seqItems ht hdt ?_)
 dsimp only
 rw[Int.toNat_natCast,hp]
 show wpAny _ _ (setNextDrawn a (pl:Int).toNat (ep:Int).toNat >>= _) _ _ s
 rw[Int.toNat_natCast,Int.toNat_natCast]
 unfold setNextDrawn
 refine wpAny_bind (wpAny_bind (wpAny_setState_of ho hd hf ?_))
 dsimp only
 rw[if_neg (by simp)]
 obtain⟨x1,x2⟩:=x
 rw[hx]
 refine wpAny_pure ?_
 refine wpAny_bind (wpAny_setField_rec hit (by simp) λh2 g2 b2=> ?_)
 exact wpAny_pure ⟨_,rfl,wpAny_pure (q h2 g2 b2)⟩
theorem ztt{it a tp:Addr}{i n ep:Nat}{ot:Obj}{ps:Array Value}{k:Nat}{o:Obj}{es:Array (Int × Value)}{t:SetTable}{Q:Option Value->Shared->Prop}(hh:A.handled=none)(hit:s.heap.get? it=some (zmt (.ref tp) i a n ep))
  (ho:s.heap.get? a=some o) (hd:o.data=.set es ep t) (hf:t.fits es.size=true) (hn:es.size=n) (ht:s.heap.get? tp=some ot) (hdt:ot.data=.seq ps k) (hp:ps[i]? =none)
  (q:∀ h',Heap.ExtBut it s.heap h'->Q none { s with heap:=h' }):wpAny (model P w) A (pyNext (.ref it)) Q E s:=by
 have T:s.TypeIs (.ref it) "set_iterator":=⟨_,hit,rfl⟩
 unfold pyNext
 refine wpAny_bind (wpAny_attempt (wpAny_callSpecial?_slot (name:=Str.ofString "__next__") T slot_sit_next (wpAny_call_entry slot_sit_next T zem ?_ (ze7 _))))
 unfold Builtin.«set_iterator.__next__»
 refine wpAny_bind (wpAny_pure ?_)
 refine wpAny_bind (wpAny_fieldsOf hit rfl ?_)
 show wpAny _ _ (setEntries a >>= _) _ _ s
 refine wpAny_bind (wpAny_setEntries_of ho hd hf ?_)
 rw[if_neg (by rw[hn];simp)]
 show wpAny _ _ (seqItems? (.ref tp) >>= _) _ _ s
 refine wpAny_bind (wpAny_seqItems ht hdt ?_)
 dsimp only
 rw[Int.toNat_natCast,hp]
 dsimp only
 refine wpAny_bind (wpAny_setField_rec hit (by simp) λh1 g1 b1=> ?_)
 refine wpAny_bind (wpAny_setField_rec g1 (by simp) λh2 g2 b2=> ?_)
 refine wpAny_mono (zvf (s:=s) (it:=it) (A:=A.in1) (Q:=λr s'=>match r with
  | .error e=>wpAny (model P w) A (isInstance e (.type "StopIteration") >>= λb=>if b=true then pure none else throw e) Q E s'
  | _=>False) (by simpa using hh) (b1.trans b2).extBut λh' e hx te=> ?_) (λ_ _ z=>z.elim) (λe s' z=>z)
 refine wpAny_bind (wpAny_isInstance (T:="StopIteration") (b:=true) te isSubtype_stop ?_)
 exact wpAny_pure (q _ hx)
theorem zqz{a:Addr}{o:Obj}{es:Array (Int × Value)}{ep:Nat}{t:SetTable}{i:Nat}{Q:Option (Value × Nat)->Shared->Prop}(ft:w.params.followText "set-order"=true)(ho:s.heap.get? a=some o)(hd:o.data=.set es ep t)(hf:t.fits es.size=true)
  (q:Q (((pickOrder (w.params.setOrder a ep) es)[i]?).map λe=>(e.2,0)) s):wpAny (model P w) A (setNext a 0 i ep) Q E s:=by
 unfold setNext
 refine wpAny_bind (wpAny_setState_of ho hd hf ?_)
 dsimp only
 refine wpAny_bind ?_
 unfold setsByText
 refine wpAny_bind (wpAny_askSetting (wpAny_pure ?_))
 show wpAny _ _ (if w.params.followText "set-order"=true then _ else _) _ _ s
 rw[if_pos ft,if_neg (by simp)]
 refine wpAny_bind ?_
 unfold setWalk
 refine wpAny_bind (wpAny_setState_of ho hd hf ?_)
 dsimp only
 refine wpAny_bind ?_
 unfold setsByText
 refine wpAny_bind (wpAny_askSetting (wpAny_pure ?_))
 show wpAny _ _ (if w.params.followText "set-order"=true then _ else _) _ _ s
 rw[if_pos ft]
 refine wpAny_bind (wpAny_askSetting (wpAny_pure ?_))
 exact wpAny_pure q
theorem zr2{a:Addr}{o:Obj}{es:Array (Int × Value)}{ep:Nat}{t:SetTable}{i:Nat}{Q:Option (Value × Nat)->Shared->Prop}(ft:w.params.followText "set-order"=false)(ho:s.heap.get? a=some o)(hd:o.data=.set es ep t)(hf:t.fits es.size=true)
  (L:Led (zr1 w) t) (pl:(!t.plain && decide (es.size > 1))=false) (hi:i<=es.size) (q:Q ((es[i]?).map λe=>(e.2,zop t.place (i+1))) s):wpAny (model P w) A (setNext a (zop t.place i) i ep) Q E s:=by
 have hz:t.place.size=es.size:=by
  unfold SetTable.fits at hf
  simp only[Bool.and_eq_true,beq_iff_eq]at hf
  exact hf.1
 unfold setNext
 refine wpAny_bind (wpAny_setState_of ho hd hf ?_)
 dsimp only
 refine wpAny_bind ?_
 unfold setsByText
 refine wpAny_bind (wpAny_askSetting (wpAny_pure ?_))
 show wpAny _ _ (if w.params.followText "set-order"=true then _ else _) _ _ s
 rw[if_neg (show ¬ w.params.followText "set-order"=true by rw[ft];exact Bool.false_ne_true)]
 have ld:t.led=true:=by rw[L.led];unfold zr1;rw[ft];rfl
 show wpAny _ _ (if(!t.plain && decide (es.size > 1))=true then _ else _) _ _ s
 rw[if_neg (by rw[pl];exact Bool.false_ne_true)]
 refine wpAny_bind (m:=if(!t.led && !es.isEmpty)=true then _ else _) ?_
 rw[if_neg (by rw[ld];simp)]
 refine wpAny_pure (wpAny_pure ?_)
 rw[zqv L.rise (by omega)]
 by_cases hlt:i<es.size
 ·have h2:i<t.place.size:=by omega
  rw[Array.getElem?_eq_getElem hlt,Array.getElem?_eq_getElem h2]
  rw[Array.getElem?_eq_getElem hlt]at q
  have:zop t.place (i+1)=t.place[i]+1:=by simp[zop,h2]
  rw[Option.map_some,this]at q
  exact q
 ·rw[Array.getElem?_eq_none (by omega)]
  rw[Array.getElem?_eq_none (by omega),Option.map_none]at q
  exact q
end
end L2
set_option linter.all false
set_option maxRecDepth 100000
set_option maxHeartbeats 4000000
namespace L2
open PySem PyProof.Rows
theorem znq:entryFor table "set.__iter__"=some Builtin.«frozenset.__iter__» :=entryFor_alias (id':="frozenset.__iter__") (by kernel_rfl) rfl (by decide +kernel) (by kernel_rfl)
theorem znr:entryFor table "set_iterator.__iter__"=some Builtin.«dict_keyiterator.__iter__» :=entryFor_alias (id':="dict_keyiterator.__iter__") (by kernel_rfl) rfl (by decide +kernel) (by kernel_rfl)
theorem zpd(a:Value):argsOk "set_iterator.__iter__" ⟨[a],[]⟩:=by
 unfold argsOk
 kernel_rfl
structure zr3(P:Program)(w:World)(A:Around)(h h1:Heap)(a I:Addr)(ms:List Int):Prop where
 ex:∃ (fp:List Addr) (ord:List Value) (ks:List Int) (St:Nat->Heap->Prop),(∀ b∈fp,b=a\/h.objs.size<=b)/\Walks P w A I fp [I] ord.length (λi v=>ord[i]? =some v) St/\St 0 h1/\IntsAre ord ks/\ks.Perm ms
 new:h.objs.size<=I
section
variable{P:Program}{w:World}{A:Around}{E:Value->Shared->Prop}{s:Shared}
theorem zgf:∀ {es:List (Int × Value)},ElemsOf (intKind P w) es->IntsAre (es.map (·.2)) (es.map λe=>iv e.2)
  | [],_=>.nil
  | e::r,h=>by
    obtain⟨t,z⟩:=zpc h (List.mem_cons_self ..)
    have:=zgf h.tail
    rw[List.map_cons,List.map_cons,z]
    exact .cons _ _ this
theorem zs4{it:Addr}{f:Value}{i:Nat}{a:Addr}{n ep:Nat}{Q:Value->Shared->Prop}(hit:s.heap.get? it=some (zmt f i a n ep))(q:Q (.ref it) s):wpAny (model P w) A (pyIter (.ref it)) Q E s:=by
 have T:s.TypeIs (.ref it) "set_iterator":=⟨_,hit,rfl⟩
 refine wpAny_pyIter_slot T zjr (wpAny_call_entry zjr T znr ?_ (zpd _))
 show wpAny _ _ (ret (.ref it)) _ _ s
 exact wpAny_pure ⟨_,rfl,"set_iterator",_,T,slot_sit_next.lookup,q⟩
theorem zr4{a I:Addr}{es:Array (Int × Value)}{ep:Nat}{t:SetTable}{o:Obj}{f:Nat->Nat}{ord:List Value}(hh:A.handled=none)(hne:a≠I)(hd:o.data=.set es ep t)(hf:t.fits es.size=true)(hl:ord.length=es.size)
  (nx:∀ (s:Shared),s.heap.get? a=some o->∀ (i:Nat),i<=es.size->∀ (A':Around) (E':Value->Shared->Prop) (Q':Option (Value × Nat)->Shared->Prop),Q' ((ord[i]?).map λv=>(v,f (i+1))) s->wpAny (model P w) A' (setNext a (f i) i ep) Q' E' s) :
  Walks P w A I [I,a] [I] ord.length (λi v=>ord[i]? =some v) (λi h=>h.get? I=some (zmt (rawInt (f i)) i a es.size ep)/\h.get? a=some o) where
 sub:=λb hb=>by simp at hb;simp[hb]
 frame:=λ_ _ _ st k=>⟨k I (by simp) _ st.1,k a (by simp) _ st.2⟩
 item:=λi s Q E hi st q=>by
  have e:ord[i]? =some ord[i]:=List.getElem?_eq_getElem hi
  refine zve st.1 st.2 hd hf rfl (λA' E' Q' q'=>nx s st.2 i (by omega) A' E' Q' (by rw[e];exact q')) λh' g b=> ?_
  exact q _ h' s.toks e ⟨g,b.extBut a _ hne st.2⟩ λc u hc z=>b.extBut c u (λy=>hc (by simp[y])) z
 done:=λs Q E st q=>by
  refine zvg hh st.1 st.2 hd hf rfl (λA' E' Q' q'=>nx s st.2 ord.length (by omega) A' E' Q' (by rw[List.getElem?_eq_none (Nat.le_refl _)];exact q')) λh' x=> ?_
  exact q h' s.toks λc u hc z=>x c u (λy=>hc (by simp[y])) z
 self:=λ_ _ _ _ st q=>zs4 st.1 q
theorem zr5{a I tp:Addr}{es:Array (Int × Value)}{ep k:Nat}{t:SetTable}{o ot:Obj}{pl:List Nat}{ord:List Value}(hh:A.handled=none)(hne:a≠I)(hnt:tp≠I)(hd:o.data=.set es ep t)(hf:t.fits es.size=true)
  (hdt:ot.data=.seq (pl.map λ(i:Nat)=>rawInt i).toArray k) (hl:ord.length=pl.length) (hx:∀ (i p:Nat),pl[i]? =some p->∃ e:Int × Value,es[p]? =some e/\ord[i]? =some e.2) :
  Walks P w A I [I,a,tp] [I] ord.length (λi v=>ord[i]? =some v) (λi h=>h.get? I=some (zmt (.ref tp) i a es.size ep)/\h.get? a=some o/\h.get? tp=some ot) where
 sub:=λb hb=>by simp at hb;simp[hb]
 frame:=λ_ _ _ st k=>⟨k I (by simp) _ st.1,k a (by simp) _ st.2.1,k tp (by simp) _ st.2.2⟩
 item:=λi s Q E hi st q=>by
  have hi':i<pl.length:=by omega
  have e:=List.getElem?_eq_getElem hi'
  obtain⟨x,e1,e2⟩:=hx i _ e
  refine zts st.1 st.2.1 hd hf rfl st.2.2 hdt (by rw[List.getElem?_toArray,List.getElem?_map,e];rfl) e1 λh' g b=> ?_
  exact q _ h' s.toks e2 ⟨g,b.extBut a _ hne st.2.1,b.extBut tp _ hnt st.2.2⟩ λc u hc z=>b.extBut c u (λy=>hc (by simp[y])) z
 done:=λs Q E st q=>by
  refine ztt hh st.1 st.2.1 hd hf rfl st.2.2 hdt (by rw[List.getElem?_toArray,List.getElem?_map,List.getElem?_eq_none (by omega)];rfl) λh' x=> ?_
  exact q h' s.toks λc u hc z=>x c u (λy=>hc (by simp[y])) z
 self:=λ_ _ _ _ st q=>zs4 st.1 q
theorem ztu{n:Nat}{Q:Nat->Shared->Prop}(hn:n≠0)(q:∀ i d,i<n->Q i { s with drawn:=d }):wpAny (model P w) A (choose .order n) Q E s:=fun Γ p hΓ =>by
 show Sem.wp _ _ (.choose .order n .pure) _ _ _ _
 rw[Sem.wp_choose]
 refine⟨hn,?_⟩
 show Sem.wp _ _ (.pure _) _ _ _ _
 rw[Sem.wp]
 exact q _ _ (Nat.mod_lt _ (Nat.pos_of_ne_zero hn))
theorem zoq{α :Type}:∀ (n:Nat) (xs:List α) (s:Shared) (Q:List α ->Shared->Prop),xs.length=n->(∀ ys d,List.Perm ys xs->Q ys { s with drawn:=d })->wpAny (model P w) A (drawOrder n xs) Q E s
  | 0,xs,s,Q,hn,q=>by
    have:xs=[]:=List.length_eq_zero_iff.mp hn
    subst this
    unfold drawOrder
    exact wpAny_pure (q [] s.drawn .nil)
  | n+1,[],s,Q,hn,q=>by cases hn
  | n+1,x::r,s,Q,hn,q=>by
    unfold drawOrder
    refine wpAny_bind (ztu (by simp) λi d hi=> ?_)
    rw[List.getElem?_eq_getElem hi]
    dsimp only
    refine wpAny_bind (zoq n _ _ _ (by rw[List.length_eraseIdx_of_lt hi,hn];rfl) λys d' p=> ?_)
    refine wpAny_pure (q _ d' ?_)
    refine(List.Perm.cons _ p).trans ?_
    rw[List.eraseIdx_eq_take_drop_succ]
    refine List.perm_middle.symm.trans ?_
    rw[<-List.drop_eq_getElem_cons hi,List.take_append_drop]
theorem zw5 {a:Addr} {ms:List Int} {Q:Value->Shared->Prop} (hh:A.handled=none) (S:IntSet P w s.heap a ms)
    (q:∀ I h1 d1,(∀ b o,s.heap.get? b=some o->h1.get? b=some o)->zr3 P w A s.heap h1 a I ms->Q (.ref I) { s with heap:=h1,drawn:=d1 }):wpAny (model P w) A (pyIter (.ref a)) Q E s:=by
  obtain⟨o,es,ep,t,ho,hex,hd,hel,hp,hb,hf,L⟩:=S
  have T:s.TypeIs (.ref a) "set":=⟨o,ho,hex.1⟩
  have hlt:a<s.heap.objs.size:=Heap.lt_size ho
  refine wpAny_pyIter_slot T PySem.F.slot_set_iter (wpAny_call_entry PySem.F.slot_set_iter T znq ?_ (PySem.F.args_set_iter_1 _))
  unfold Builtin.«frozenset.__iter__»
  show wpAny _ _ ((pure a:Sem Addr) >>= _) _ _ s
  refine wpAny_bind (wpAny_pure ?_)
  refine wpAny_bind ?_
  unfold Builtin.Frozenset.sizeOf
  refine wpAny_bind (wpAny_setEntries_of ho hd hf (wpAny_pure ?_))
  refine wpAny_bind ?_
  unfold setDrawn
  refine wpAny_bind (wpAny_setState_of ho hd hf ?_)
  dsimp only
  refine wpAny_bind ?_
  unfold setsByText
  refine wpAny_bind (wpAny_askSetting (wpAny_pure (wpAny_pure ?_)))
  show wpAny _ _ (if(!w.params.followText "set-order" && (!t.plain && decide (es.size > 1)))=true then _ else _) _ _ s
  have plain:∀ (f:Nat->Nat) (ord:List Value),f 0=0->ord.length=es.size->(∃ ks,IntsAre ord ks/\ks.Perm ms) →
      (∀ (s:Shared),s.heap.get? a=some o->∀ (i:Nat),i<=es.size->∀ (A':Around) (E':Value->Shared->Prop) (Q':Option (Value × Nat)->Shared->Prop),Q' ((ord[i]?).map λv=>(v,f (i+1))) s->wpAny (model P w) A' (setNext a (f i) i ep) Q' E' s) →
      zr3 P w A s.heap (s.heap.push (zmt (rawInt 0) 0 a es.size ep)) a s.heap.objs.size ms:=λf ord f0 hl ⟨ks,hi,pk⟩ nx =>
    ⟨⟨_,ord,ks,_,λb hb=>by
        simp only[List.mem_cons,List.not_mem_nil,or_false]at hb
        rcases hb with rfl | rfl
        ·exact .inr (Nat.le_refl _)
        ·exact .inl rfl,zr4 hh (Nat.ne_of_lt hlt) hd hf hl nx,⟨by rw[f0];exact Heap.get?_push_size _ rfl,Heap.get?_push_of_some _ ho⟩,hi,pk⟩,Nat.le_refl _⟩
  have fin:∀ (W:zr3 P w A s.heap (s.heap.push (zmt (rawInt 0) 0 a es.size ep)) a s.heap.objs.size ms),
      wpAny (model P w) A.in1 (do
        let first ← (pure (rawInt 0):Sem Value)
        ret (← newFields "set_iterator" [first,rawInt 0,.ref a,rawInt es.size,rawInt (← setEpoch a)])) (λfin s'=>∃ v,fin=.done (.ret v)/\∃ T' r,s'.TypeIs v T'/\typeLookup (.type T') "__next__"=pure (some r)/\Q v s') E s:=λW=>by
    refine wpAny_bind (wpAny_pure ?_)
    refine wpAny_bind (wpAny_setEpoch_of ho hd hf ?_)
    refine wpAny_bind (wpAny_newObj_type (wpAny_pure ⟨_,rfl,"set_iterator",_,⟨_,Heap.get?_push_size _ rfl,rfl⟩,slot_sit_next.lookup,?_⟩))
    exact q _ _ s.drawn (λb u e=>Heap.get?_push_of_some _ e) W
  cases ft:w.params.followText "set-order" with
  | true =>
    rw[if_neg (by simp)]
    have pk:=zva (w.params.setOrder a ep) es
    have hl:(pickOrder (w.params.setOrder a ep) es).size=es.size:=by rw[<-Array.length_toList,pk.length_eq,Array.length_toList]
    refine fin (plain (λ_=>0) ((pickOrder (w.params.setOrder a ep) es).toList.map (·.2)) rfl (by rw[List.length_map,Array.length_toList,hl]) ⟨_,zgf (hel.perm pk),(pk.map _).trans hp⟩ λs1 h1 i hi A' E' Q' q'=> ?_)
    refine zqz ft h1 hd hf ?_
    rw[List.getElem?_map,Array.getElem?_toList,Option.map_map]at q'
    exact q'
  | false =>
    cases pl:(!t.plain && decide (es.size > 1))with
    | false =>
      rw[if_neg (by simp)]
      refine fin (plain (zop t.place) (es.toList.map (·.2)) rfl (by rw[List.length_map,Array.length_toList]) ⟨_,zgf hel,hp⟩ λs1 h1 i hi A' E' Q' q'=> ?_)
      refine zr2 ft h1 hd hf L pl hi ?_
      rw[List.getElem?_map,Array.getElem?_toList,Option.map_map]at q'
      exact q'
    | true =>
      rw[if_pos (by simp)]
      refine wpAny_bind (zoq es.size (List.range es.size) s _ (List.length_range) λys d p=> ?_)
      have hy:ys.length=es.size:=by rw[p.length_eq,List.length_range]
      have hys:∀ x∈ys,x<es.size:=λx hx=>List.mem_range.mp (p.mem_iff.mp hx)
      refine wpAny_bind (wpAny_newTuple ?_ (by rw[List.length_map,hy];exact fits_of_scanBound hb))
      refine wpAny_bind (wpAny_setEpoch_of (o:=o) (Heap.get?_push_of_some _ ho) hd hf ?_)
      refine wpAny_bind (wpAny_newObj_type (wpAny_pure ⟨_,rfl,"set_iterator",_,⟨_,Heap.get?_push_size _ rfl,rfl⟩,slot_sit_next.lookup,?_⟩))
      refine q _ _ d (λb u e=>Heap.get?_push_of_some _ (Heap.get?_push_of_some _ e)) ⟨⟨_,ys.map λp=>(es[p]?.map (·.2)).getD .none,ys.map λp=>(es[p]?.map λe=>iv e.2).getD 0,_,λb hb=> ?_,
        zr5 hh ?_ ?_ hd hf rfl (by rw[List.length_map]) λi p e=> ?_,⟨Heap.get?_push_size _ rfl,Heap.get?_push_of_some _ (Heap.get?_push_of_some _ ho),Heap.get?_push_of_some _ (Heap.get?_push_size _ rfl)⟩,?_,?_⟩,?_⟩
      · simp only[List.mem_cons,List.not_mem_nil,or_false]at hb
        rcases hb with rfl | rfl | rfl
        ·right;rw[size_push'];exact Nat.le_succ _
        ·exact .inl rfl
        ·exact .inr (Nat.le_refl _)
      ·rw[size_push'];exact Nat.ne_of_lt (Nat.lt_succ_of_lt hlt)
      ·rw[size_push'];exact Nat.ne_of_lt (Nat.lt_succ_self _)
      · have hp':p<es.size:=hys p (List.mem_of_getElem? e)
        exact⟨es[p],Array.getElem?_eq_getElem hp',by rw[List.getElem?_map,e];simp[hp']⟩
      · have all:∀ (l:List Nat),(∀ x∈l,x<es.size)->IntsAre (l.map λp=>(es[p]?.map (·.2)).getD .none) (l.map λp=>(es[p]?.map λe=>iv e.2).getD 0):=by
          intro l
          induction l with
          | nil=>exact λ_=>.nil
          | cons x r ih =>
            intro hl
            have hx:=hl x (List.mem_cons_self ..)
            obtain⟨tk,z⟩:=zpc hel (e:=es[x]) (by simp)
            have e1:(es[x]?.map (·.2)).getD Value.none=Value.int (iv es[x].2) tk:=by rw[Array.getElem?_eq_getElem hx];exact z
            have e2:(es[x]?.map λe=>iv e.2).getD 0=iv es[x].2:=by rw[Array.getElem?_eq_getElem hx];rfl
            rw[List.map_cons,List.map_cons,e1,e2]
            exact .cons _ _ (ih λy hy=>hl y (List.mem_cons_of_mem _ hy))
        exact all ys hys
      · refine(p.map _).trans (List.Perm.trans (List.Perm.of_eq ?_) hp)
        refine List.ext_getElem (by simp) λi h1 h2=> ?_
        have hi:i<es.size:=by simpa using h1
        simp[hi]
      ·rw[size_push'];exact Nat.le_succ _
theorem zw6{a:Addr}{Q:Bool->Shared->Prop}(T:s.TypeIs (.ref a) "set")(q:Q false s):wpAny (model P w) A (Builtin.List.listLengthHint (.ref a)) Q E s:=by
 unfold Builtin.List.listLengthHint
 refine wpAny_bind (wpAny_specialOf T PySem.F.slot_set_len.lookup ?_)
 generalize hid:("set.__len__":String)=id0
 wp_delta
 rw[show splitId id0=some ("set","__len__")from by subst hid;decide +kernel]
 subst hid
 refine wpAny_bind (wpAny_isInstance (T:="set") (b:=true) T (by rw[isSubtype_type];kernel_rfl) ?_)
 refine wpAny_ite_split (λz=>absurd z (by decide)) (λ_=> ?_)
 refine wpAny_ite_split (λ_=> ?_) (λz=>absurd (by decide +kernel) z)
 exact wpAny_bind (wpAny_typeOf T (wpAny_pure q))
theorem zr6{a:Addr}{ms:List Int}{R:List Value->Shared->Prop}(hh:A.handled=none)(S:IntSet P w s.heap a ms)(hn:ms.length<=sizeLine)
  (q:∀ h' tk d vs ks,(∀ b o,s.heap.get? b=some o->h'.get? b=some o)->s.heap.objs.size<=h'.objs.size->IntsAre vs ks->ks.Perm ms->R vs { s with heap:=h',toks:=tk,drawn:=d }):wpAny (model P w) A (collect (.ref a)) R E s:=by
 have hlt:a<s.heap.objs.size:=let ⟨_,_,_,_,ho,_⟩:=S;Heap.lt_size ho
 unfold collect
 refine wpAny_bind (wpAny_runValue (codeAny_builtin entry_proto_collect' ?_))
 rw[Around.under_plainId PySem.F.plain_proto_collect _]
 show wpAny _ A.in1 (newList [] >>= λl=>again (.builtin "list.__iadd__" ⟨[l,.ref a],[]⟩)) _ _ s
 refine wpAny_bind (wpAny_newObj_type ?_)
 refine wpAny_pure ⟨plainId_quiet PySem.F.plain_list_iadd _,codeAny_builtin entry_list_iadd' ?_⟩
 rw[Around.under_plainId PySem.F.plain_list_iadd _]
 show wpAny _ A.in1 (Builtin.List.listExtendWith (.ref s.heap.objs.size) (.ref a) (.ref s.heap.objs.size)) _ _ _
 generalize eN:s.heap.objs.size=N at hlt ⊢
 have gN:(s.heap.push { cls:=.type "list",data:=.seq ([]:List Value).toArray }).get? N=some { cls:=.type "list",data:=.seq #[] }:=eN ▸ Heap.get?_push_size _ rfl
 have keep1:∀ b o,s.heap.get? b=some o->(s.heap.push { cls:=.type "list",data:=.seq ([]:List Value).toArray }).get? b=some o:=λb o e=>Heap.get?_push_of_some _ e
 have S1:=S.at λo e=>keep1 a o e
 have big:(s.heap.push { cls:=.type "list",data:=.seq ([]:List Value).toArray }).objs.size=N+1:=by rw[size_push',eN]
 revert gN keep1 S1 big
 generalize s.heap.push { cls:=.type "list",data:=.seq ([]:List Value).toArray }=h0
 intro gN keep1 S1 big
 have T1:∀ h':Heap,(∀ b o,h0.get? b=some o->h'.get? b=some o)->∀ tk d,({ s with heap:=h',toks:=tk,drawn:=d }:Shared).TypeIs (.ref a) "set":=λh' k tk d=>by
  obtain⟨o,_,_,_,ho,hex,_⟩:=S1
  exact⟨o,k _ _ ho,hex.1⟩
 unfold Builtin.List.listExtendWith
 refine wpAny_bind (wpAny_typeOf (T:="set") (T1 h0 (λ_ _ e=>e) s.toks s.drawn) ?_)
 have ne:Builtin.List.listSameRef (.ref N) (.ref a)=false:=by
  simp only[Builtin.List.listSameRef,beq_eq_false_iff_ne]
  exact Nat.ne_of_gt hlt
 have n1:(Value.type "set" == Value.type "list")=false:=by decide
 have n2:(Value.type "set" == Value.type "tuple")=false:=by decide
 simp only[ne,n1,n2,Bool.or_false,Bool.false_eq_true,if_false]
 refine wpAny_bind (zw5 (A:=A.in1) (s:={ s with heap:=h0 }) (by simpa using hh) S1 λI h1 d1 k1 W=> ?_)
 obtain⟨⟨fp,ord,ks,St,hfp,W,st,hi,pk⟩,hI⟩:=W
 have hI:N+1<=I:=big ▸ hI
 have hlen:ord.length=ms.length:=by rw[IntsAre.length hi,pk.length_eq]
 refine wpAny_bind (wpAny_holding (zw6 (T1 h1 k1 s.toks d1) ?_))
 rw[if_pos (by decide)]
 refine wpAny_bind (wpAny_rule ?_)
 refine wpAny_bind ?_
 show wpAny _ _ (updateSeq N (·.push .none) >>= λ_=>updateSeq N (·.pop)) _ _ _
 have g1:=k1 _ _ gN
 refine wpAny_bind (wpAny_updateSeq (s:={ s with heap:=h1,drawn:=d1 }) g1 rfl ?_)
 have g2:=Heap.get?_update_self (Obj.mapSeq (·.push Value.none)) g1 rfl
 refine wpAny_updateSeq (hz:=by seq_fits) g2 rfl ?_
 have g3:=Heap.get?_update_self (Obj.mapSeq (·.pop)) g2 rfl
 have oth:∀ b o,b≠N->h1.get? b=some o->((h1.update N (Obj.mapSeq (·.push Value.none))).update N (Obj.mapSeq (·.pop))).get? b=some o:=λb o hb e =>
  (Heap.get?_update_other _ _ (Ne.symm hb)).trans ((Heap.get?_update_other _ _ (Ne.symm hb)).trans e)
 have Nfp:N∉fp:=λz=>by
  rcases hfp N z with y | y
  ·exact Nat.ne_of_gt hlt y
  ·have y':h0.objs.size<=N:=y
   rw[big]at y'
   exact absurd y' (Nat.not_succ_le_self _)
 refine wpAny_pure ⟨plainId_quiet PySem.F.plain_extend_loop _,?_⟩
 refine codeAny_extend_loopS W.toS (by rw[hlen];exact hn) N Nfp (.ref N) ord.length 0 _ #[] _ rfl (Nat.zero_le _) (W.frame 0 _ _ st λb hb o e=>oth b o (λz=>Nfp (z ▸ hb)) e) g3 (ItemsOf.nil _) λs' acc c m g4 hacc=> ?_
 show wpAny _ A (load N >>= _) _ _ _
 refine wpAny_bind (wpAny_load g4 ?_)
 refine wpAny_pure ?_
 have eacc:acc.toList=ord:=by
  refine List.ext_getElem? λi=> ?_
  by_cases hlt':i<ord.length
  ·have h3:i<acc.size:=by rw[hacc.1];exact hlt'
   have:=hacc.2 i acc[i] (Array.getElem?_eq_getElem h3)
   rw[Array.getElem?_toList,Array.getElem?_eq_getElem h3,this]
  ·have e1:acc.toList[i]? =none:=List.getElem?_eq_none (by rw[Array.length_toList,hacc.1];omega)
   have e2:ord[i]? =none:=List.getElem?_eq_none (by omega)
   rw[e1,e2]
 show R acc.toList s'
 rw[eacc]
 obtain⟨h3,gn3,dr3,tk3,os3⟩:=s'
 have a1:gn3=s.gens:=m.gens
 have a2:dr3=d1:=m.drawn
 have a3:os3=s.os:=m.os
 subst a1;subst a2;subst a3
 refine q _ _ dr3 ord ks (λb o e=> ?_) (by rw[eN];exact Nat.le_of_lt (Heap.lt_size g4)) hi pk
 have hb:b<N:=eN ▸ Heap.lt_size e
 refine m.heap b o (λz=> ?_) (oth b o (Nat.ne_of_lt hb) (k1 _ _ (keep1 _ _ e)))
 simp only[List.mem_cons,List.not_mem_nil,or_false]at z
 rcases z with z | z
 ·exact Nat.ne_of_lt hb z
 ·exact Nat.ne_of_lt (Nat.lt_of_lt_of_le (Nat.lt_succ_of_lt hb) hI) z
theorem ztv{a:Addr}{ms:List Int}{Q:Value->Shared->Prop}(hh:A.handled=none)(S:IntSet P w s.heap a ms)(hn:ms.length<64)
  (q:∀ D h' tk d c out ks,(∀ b o,s.heap.get? b=some o->h'.get? b=some o)->s.heap.objs.size<=D->h'.get? D=some (seqObj "list" out c)->IntsAre out.toList ks->ks.Perm ms->ks.Pairwise (· <=·)->Q (.ref D) { s with heap:=h',toks:=tk,drawn:=d }) :
  wpAny (model P w) A (call (.builtin "sorted") [.ref a]) Q E s:=by
 refine Calls.call_function_entry kind_sorted plain_sorted entry_sorted (args_sorted1 _) ?_
 unfold Builtin.«sorted»
 refine wpAny_bind (m:=checkCount "sorted" 1 1 _) (wpAny_pure ?_)
 refine wpAny_bind (zr6 (A:=A.in1) (by simpa using hh) S (by rw[sizeLine_eq];omega) λh1 tk d vs ks k1 size_le hi pk=> ?_)
 have hl:vs.length<64:=by rw[IntsAre.length hi,pk.length_eq];exact hn
 refine wpAny_bind (wpAny_newList ?_ (by rw[sizeLine_eq];omega))
 have g:(h1.push (seqObj "list" vs.toArray 0)).get? h1.objs.size=some (seqObj "list" vs.toArray 0):=Heap.get?_push_size _ rfl
 show wpAny _ _ _ _ _ { s with heap:=h1.push (seqObj "list" vs.toArray 0),toks:=tk,drawn:=d }
 refine wpAny_bind (wpAny_holding (wpAny_call_entry slot_list_sort ⟨_,g,rfl⟩ entry_list_sort (list_sort_tree g hi hl λout ks' i1 p1 r1=>⟨_,rfl,?_⟩) (args_list_sort _)))
 obtain⟨c,gc⟩:=sortedHeap_at (n:=0) (out:=out) g
 refine wpAny_pure ⟨_,rfl,q _ _ tk d c out ks' (λb o e=> ?_) size_le gc i1 (p1.trans pk) r1⟩
 have hb:=Heap.lt_size (k1 _ _ e)
 rw[sortedHeap_old (Nat.ne_of_lt hb) (by rw[size_push'];exact Nat.lt_succ_of_lt hb)]
 exact Heap.get?_push_of_some _ (k1 _ _ e)
end
end L2
set_option linter.all false
set_option maxRecDepth 100000
set_option maxHeartbeats 4000000
namespace L2
open PySem PyProof.Rows
section
variable{P:Program}{w:World}{A:Around}{E:Value->Shared->Prop}{s:Shared}
theorem zw7 {l:Addr} {its:Array Value} {ns:List Int} {Q:Value->Shared->Prop} (hh:A.handled=none) (hl:s.heap.IsList l its) (hi:IntsAre its.toList ns) (hb:its.size+1<scanBound)
    (q:∀ h' tk,IntSet P w h' s.heap.objs.size (firstMet (λi=>ns.getD i 0) its.size)->(∀ b o,s.heap.get? b=some o->h'.get? b=some o)->Q (.ref s.heap.objs.size) { s with heap:=h',toks:=tk }) :
    wpAny (model P w) A (call (.type "set") [.ref l]) Q E s:=by
  obtain⟨c,tl,mro⟩:=PySem.F.called_set.mro
  have made:=PySem.F.called_set.made
  have sub:=PySem.F.called_set.sub
  refine wpAny_call (codeAny_of_tree ?_)
  show wpAny _ _ (callAny (.type "set") _) _ _ _
  refine wpAny_pure ⟨Code.quiet_builtin _ (by decide +kernel),codeAny_builtin PySem.F.entry_type_call ?_⟩
  rw[Around.under_plain (weight_type_call_type "set" [.ref l] []) rfl]
  have n1:=PySem.F.called_set.notType
  have n2:=PySem.F.called_set.canCreate
  have n3:=PySem.F.typeCall_set_1 (.ref l)
  repeat (any_goals (first | assumption | wp_step))
  generalize eS:({ cls:=.type "set",dict:=none,data:=.set #[] 0 (.fresh 0 0 (zr1 w)) }:Obj)=oS
  refine codeAny_mono (zzr (E:=E) (Q:=λx s1=>x=.ref s.heap.objs.size/\s1={ s with heap:=s.heap.push oS }) ⟨rfl,by rw[<-eS]⟩) λr s1 hr=> ?_
  cases r with
  | error e=>exact hr
  | ok fl =>
    cases fl with
    | ret x =>
      obtain⟨rfl,rfl⟩:=hr
      have g0:(s.heap.push oS).get? s.heap.objs.size=some oS:=Heap.get?_push_size _ (by rw[<-eS];rfl)
      have T0:Shared.TypeIs { s with heap:=s.heap.push oS } (.ref s.heap.objs.size) "set":=⟨_,g0,by rw[<-eS]⟩
      have i1:=PySem.F.called_set.init.lookup
      have i2:=PySem.F.called_set.init.bind (.ref s.heap.objs.size)
      repeat (any_goals (first | assumption | wp_step))
      refine codeAny_mono (codeAny_call_builtin (R:=wants (λr s2=>r=.none/\∃ h' tk,s2={ s with heap:=h',toks:=tk }/\IntSet P w h' s.heap.objs.size (firstMet (λi=>ns.getD i 0) its.size) ∧
        (∀ b o,s.heap.get? b=some o->h'.get? b=some o)) E) PySem.F.called_set.init.plain PySem.F.entry_set_init (check_set_init_1 T0 ?_)) λr2 s2 hr2=> ?_
      · obtain⟨ol,gl,cl,nl,dl⟩:=hl
        obtain⟨c1,d1,dt1,sl1⟩:=ol
        simp only at cl dl
        subst cl;subst dl
        have gl':=Heap.get?_push_of_some oS gl
        have e1:=PySem.F.sub_list_set
        have e2:=PySem.F.sub_list_frozenset
        have e3:(Value.type "list" == Value.type "dict")=false:=by decide
        have hl1:(s.heap.push oS).IsList l its:=⟨_,gl',rfl,nl,rfl⟩
        have hlt:l<s.heap.objs.size:=Heap.lt_size gl
        have big:=size_push' s.heap oS
        revert gl' hl1 g0 T0 big
        have keep0:∀ b o,s.heap.get? b=some o->(s.heap.push oS).get? b=some o:=λb o e=>Heap.get?_push_of_some _ e
        revert keep0
        generalize s.heap.push oS=h0
        intro keep0 g0 T0 gl' hl1 big
        subst eS
        unfold Builtin.«set.__init__» noKeywords Builtin.Frozenset.updateFrom
        generalize hPI:pyIter=PI
        wp_walk
        subst hPI
        refine wpAny_pyIter_list hl1 ?_
        refine wpAny_bind (wpAny_runValue ?_)
        have hh3:A.in1.in1.in1.handled=none:=by simp[hh]
        have ne1:l≠h0.objs.size:=Nat.ne_of_lt (by rw[big];exact Nat.lt_succ_of_lt hlt)
        have nin:s.heap.objs.size∉[h0.objs.size,l]:=by
          simp only[List.mem_cons,List.not_mem_nil,or_false,not_or]
          exact⟨Nat.ne_of_lt (by rw[big];exact Nat.lt_succ_self _),Nat.ne_of_gt hlt⟩
        refine zvd ((Walks.list hh3 _ l ne1 its).toS) s.heap.objs.size nin (λi=>ns.getD i 0) (λi v e=>IntsAre.int_at hi i v (by rw[Array.getElem?_toList];exact e)) hb (its.size - 0) 0 _ (by omega) (Nat.zero_le _)
          ⟨⟨_,Heap.get?_push_size _ rfl,rfl,rfl⟩,hl1.push _⟩ ⟨_,#[],0,_,Heap.get?_push_of_some _ g0,⟨rfl,rfl,rfl⟩,rfl,λe he=>by simp at he,by exact .nil,by decide,by rfl,Led.fresh _⟩ λs3 m S3=> ?_
        obtain⟨h3,g3,d3,tk3,os3⟩:=s3
        have a1:g3=s.gens:=m.gens
        have a2:d3=s.drawn:=m.drawn
        have a3:os3=s.os:=m.os
        subst a1;subst a2;subst a3
        show wpAny _ _ _ _ _ _
        refine wpAny_pure ?_
        show wpAny _ _ (ret Value.none) _ _ _
        refine wpAny_pure ⟨rfl,h3,tk3,rfl,S3,λb o e=> ?_⟩
        have hb:=Heap.lt_size e
        refine m.heap b o ?_ (Heap.get?_push_of_some _ (keep0 _ _ e))
        simp only[List.mem_cons,List.not_mem_nil,or_false,not_or]
        exact⟨Nat.ne_of_lt hb,Nat.ne_of_lt (by rw[big];exact Nat.lt_succ_of_lt hb)⟩
      · cases r2 with
        | error e=>exact hr2
        | ok fl2 =>
          cases fl2 with
          | ret r =>
            obtain⟨rfl,h',tk,rfl,S',k'⟩:=hr2
            repeat (any_goals (first | assumption | wp_step))
            exact q _ _ S' k'
          | _=>exact hr2.elim
    | _=>exact hr.elim
end
end L2
set_option linter.all false
set_option maxRecDepth 100000
namespace L2
open PySem PySem.Spec PyProof.Rows
section
variable{X:Cx}
theorem Inv.drawn{pins:List (Addr × Obj)}{σ:St}{H:Hp}{s:Shared}(I:Inv X pins σ H s)(d):Inv X pins σ H { s with drawn:=d } :=
 { ok:=I.ok,os:=I.os,bare:=I.bare,base:=I.base,loc:=I.loc,cell:=I.cell,free:=I.free,freeC:=I.freeC,pin:=I.pin,hok:=I.hok,len:=I.len }
theorem zla:∀ {ns:List Int} {us:List Value},Vals (ns.map V.int) us->IntsAre us ns
  | [],_,.nil=>.nil
  | n::r,_,.cons h t=>by
    obtain⟨tk,rfl⟩:=h
    exact .cons _ _ (zla t)
abbrev setX(X:Cx)(a:Addr)(ms:List Int):HO:=.ext λh=>IntSet X.prog X.w h a ms
theorem zr7(hc:X.calm=true):CallR X (.type "set") (λxs H Q=>∃ (p:Addr) (ns:List Int),xs=[.ref p]/\SqL X.K H p (ns.map V.int)/\ns.length<=1000 ∧
  ∀ (a:Addr),H a=none->Q (.ref a) (upd H a (setX X a (firstMet (λi=>ns.getD i 0) ns.length)))):=by
 intro pins s σ H xs us Q I r h
 obtain⟨p,ns,rfl,hq,hn,q⟩:=h
 obtain⟨u,rfl,rx⟩:=zp9 r
 cases rx
 obtain⟨its,r',pl,hz⟩:=I.list hq
 have hi:=zla r'
 have hlen:its.length=ns.length:=IntsAre.length hi
 refine zw7 (I.ok.hd hc) pl.isList hi (by rw[List.size_toArray,hlen];exact Nat.lt_of_le_of_lt (Nat.succ_le_succ hn) (by decide)) λh' tk S k=> ?_
 have hz2:its.toArray.size=ns.length:=by rw[List.size_toArray,hlen]
 rw[hz2]at S
 refine⟨.ref s.heap.objs.size,_,I.laid k (Nat.le_refl _) ?_,rfl,q _ (I.hok.fresh (Nat.le_refl _))⟩
 exact⟨S,⟨_,S.choose_spec.choose_spec.choose_spec.choose_spec.1⟩,λh1 h2 z e=>z.at e⟩
theorem zns(hc:X.calm=true):CallR X (.builtin "sorted") (λxs H Q=>∃ (a:Addr) (ms:List Int),xs=[.ref a]/\H a=some (setX X a ms)/\ms.length<64 ∧
  ∀ (D:Addr) (ks:List Int),H D=none->List.Perm ks ms->ks.Pairwise (· <=·)->Q (.ref D) (upd H D (.lst (ks.map V.int)))):=by
 intro pins s σ H xs us Q I r h
 obtain⟨a,ms,rfl,ha,hn,q⟩:=h
 obtain⟨u,rfl,rx⟩:=zp9 r
 cases rx
 obtain⟨S,_,_⟩:=I.hok a _ ha
 refine ztv (I.ok.hd hc) S hn λD h' tk d c out ks k hD g hi pk hr=> ?_
 have hl:ks.length<64:=by rw[pk.length_eq];exact hn
 refine⟨.ref D,_,(I.laid (t':=tk) k hD ?_).drawn d,rfl,q D ks (I.hok.fresh hD) pk hr⟩
 exact⟨by rw[List.length_map,sizeLine_eq];omega,out.toList,c,zml hi,g⟩
theorem zq0(val:Nat->Int)(n:Nat)(x:Int):x∈firstMet val n↔∃ i,i<n/\val i=x:=by
 have h:=firstMet_any val n x
 rw[Bool.eq_iff_iff,List.any_eq_true,List.any_eq_true]at h
 constructor
 ·intro hx
  obtain⟨y,hy,e⟩:=h.mp ⟨x,hx,beq_self_eq_true x⟩
  obtain⟨i,hi,rfl⟩:=List.mem_map.mp hy
  exact⟨i,List.mem_range.mp hi,eq_of_beq e⟩
 ·rintro ⟨i,hi,rfl⟩
  obtain⟨y,hy,e⟩:=h.mpr ⟨val i,List.mem_map.mpr ⟨i,List.mem_range.mpr hi,rfl⟩,beq_self_eq_true _⟩
  exact eq_of_beq e ▸ hy
theorem zfv(val:Nat->Int):∀ n,(firstMet val n).Nodup
  | 0=>by rw[firstMet_zero];exact List.nodup_nil
  | n + 1=>by
    rw[firstMet_succ]
    by_cases h:val n∈firstMet val n
    ·rw[zqx h];exact zfv val n
    · rw[zqy h]
      exact List.nodup_append.mpr ⟨zfv val n,by simp,λa ha b hb e=>by rw[List.mem_singleton]at hb;subst hb;subst e;exact h ha⟩
theorem zvh:∀ {l:List Int},l.Pairwise (· <=·)->l.Nodup->l.Pairwise (· <·)
  | [],_,_=>.nil
  | x::r,h,n=>by
    obtain⟨h1,h2⟩:=List.pairwise_cons.mp h
    obtain⟨n1,n2⟩:=List.nodup_cons.mp n
    refine List.pairwise_cons.mpr ⟨λy hy=> ?_,zvh h2 n2⟩
    have:=h1 y hy
    have:x≠y:=λz=>n1 (z ▸ hy)
    omega
def zmg(K:PySem.W.Frag)(te:TE):TE:=λσ H Q=>te σ H λx H1=>∃ (p:Addr) (ns:List Int),x=.ref p/\SqL K H1 p (ns.map V.int)/\ns.length<64 ∧
 ∀ (a:Addr) (o:HO) (D:Addr) (ks:List Int),H1 a=none->upd H1 a o D=none->ks.Pairwise (· <·)->(∀ x,x∈ks↔x∈ns)->ks.length<=ns.length->Q (.ref D) (upd (upd H1 a o) D (.lst (ks.map V.int)))
def clo(te:TE):TE:=λσ H Q=>∃ C:VK,te σ H C/\∀ x H1,C x H1->Q x H1
theorem PE.clo{e:Expr}{te:TE}(h:PE X e te):PE X e (clo te):=λpins s σ H Q I ⟨C,q,m⟩=>thn (h pins s σ H C I q) λv s' ⟨x,H1,I1,r1,q1⟩=>⟨x,H1,I1,r1,m _ _ q1⟩
theorem zor{e:Expr}{te:TE}{p1 p2 p3 p4:Pos}(hc:X.calm=true)(g1:Gl X "sorted")(m1:X.mg "sorted"=none)(g2:Gl X "set")(m2:X.mg "set"=none)(h:PE X e te)
  (he:starEach [e] X.env=[(false,eval e X.env)]:=by rfl) :
  PE X (.Call (.Name "sorted" p1) [.Call (.Name "set" p2) [e] [] p3] [] p4) (zmg X.K te):=λpins s σ H Q I q=>by
 refine(zb1 (zns hc) g1 m1 (by rfl) (zab (zf4 (zr7 hc) g2 m2 (by rfl) (zab h.clo zad he) (he:=he)) zad)) pins s σ H Q I ?_
 refine⟨_,q,λx H1 ⟨p,ns,e1,hq,hn,q1⟩=> ?_⟩
 subst e1
 refine⟨p,ns,rfl,hq,by omega,λa ha=>⟨a,_,rfl,zac,?_,λD ks hD pk hr=> ?_⟩⟩
 ·exact Nat.lt_of_le_of_lt (firstMet_length_le ..) hn
 ·have nd:=zfv (λi=>ns.getD i 0) ns.length
  refine q1 a _ D ks ha hD (zvh hr (pk.nodup_iff.mpr nd)) (λx=> ?_) (by rw[pk.length_eq];exact firstMet_length_le ..)
  rw[pk.mem_iff,zq0]
  refine⟨λ⟨i,hi,e⟩=> ?_,λhx=> ?_⟩
  ·rw[<-e]
   simp[List.getD,hi]
  ·obtain⟨i,hi,e⟩:=List.getElem_of_mem hx
   exact⟨i,hi,by simp[List.getD,hi,e]⟩
end
end L2
set_option linter.all false
set_option maxRecDepth 100000
namespace L2
open PySem PySem.Spec PyProof.Rows
def Itv(K:PySem.W.Frag)(a:Addr)(n:Nat):It :=
 ⟨λi H=>i<n/\∃ xs,SqL K H a xs/\xs.length=n,λi H x H'=>H'=H/\∀ xs,SqL K H a xs->xs[n - 1 - i]? =some x,λi _=>n<=i⟩
def iRev(K:PySem.W.Frag)(ta:TA):TI:=λσ H R=>ta σ H λvs H1=>∃ a xs,vs=[.ref a]/\SqL K H1 a xs/\R (Itv K a xs.length) H1
section
variable{X:Cx}{tg:Expr}
def zabs(K:PySem.W.Frag)(te:TE)(ts:TO):TE:=λσ H Q=>te σ H λx H1=>ts σ H1 λk H2=>k=some (-1)/\∃ a xs,x=.ref a/\SqL K H2 a xs/\∀ p,H2 p=none->Q (.ref p) (upd H2 p (.lst xs.reverse))
theorem zvi{K:PySem.W.Frag}{te:TE}{ts:TO}{σ:St}{H:Hp}{Q:VK}:zabs K te ts σ H Q=(te σ H λx H1=>ts σ H1 λk H2=>k=some (-1)/\∃ a xs,x=.ref a/\SqL K H2 a xs/\∀ p,H2 p=none->Q (.ref p) (upd H2 p (.lst xs.reverse))):=rfl
def zac2(ta:TA):TE:=λσ H Q=>ta σ H λvs H1=>∃ k:Nat,vs=[.int k]/\k<=100000/\∀ p,H1 p=none->Q (.ref p) (upd H1 p (.lst (ups k)))
theorem zw8{ta:TA}{σ:St}{H:Hp}{Q:VK}:zac2 ta σ H Q=(ta σ H λvs H1=>∃ k:Nat,vs=[.int k]/\k<=100000/\∀ p,H1 p=none->Q (.ref p) (upd H1 p (.lst (ups k)))):=rfl
def zlb(K:PySem.W.Frag):List V->Hp->VK->Prop:=λxs H Q=>∃ (p:Addr) (kvs:List (Key × V)),xs=[.ref p]/\H p=some (.dK kvs)/\∀ l,H l=none->Q (.ref l) (upd H l (.dK kvs))
theorem zabt{K:PySem.W.Frag}{p:Addr}{H:Hp}{Q:VK}:zlb K [.ref p] H Q=∃ kvs,H p=some (.dK kvs)/\∀ l,H l=none->Q (.ref l) (upd H l (.dK kvs)):=by simp[zlb]
end
theorem zr8{K:PySem.W.Frag}{as:TA}{g:TG}{s1:TS}{D:Ends}{σ:St}{H:Hp}:tFor (iRev K as) g s1 D σ H=(as σ H λvs H1=>∃ a xs,vs=[.ref a]/\SqL K H1 a xs/\zo6 (Itv K a xs.length) g s1 D σ H1):=rfl
section
variable{K:PySem.W.Frag}{tt:TT}{cap:List Nat}{σ:St}{H:Hp}{Q:VK}
end
section
variable{K:PySem.W.Frag}{td ty tv te:TE}{D:Ends}{σ:St}{H:Hp}{Q:VK}{QB:Bool->Hp->Prop}
theorem zw9:zyg td ty σ H Q=(td σ H λx H1=>ty σ H1 λy H2=>∃ a v,x=.ref a/\DGet H2 a y (some v)/\Q v H2):=rfl
theorem zzs:tDIn ty td σ H Q=(ty σ H λy H1=>td σ H1 λx H2=>∃ a o,x=.ref a/\DGet H2 a y o/\Q (.bl o.isSome) H2):=rfl
theorem ztw:zyh ty td σ H Q=(ty σ H λy H1=>td σ H1 λx H2=>∃ a o,x=.ref a/\DGet H2 a y o/\Q (.bl (!o.isSome)) H2):=rfl
theorem zxa:zyi td ty tv D σ H=(tv σ H λv H1=>td σ H1 λx H2=>ty σ H2 λy H3=>∃ a H4,x=.ref a/\DPut H3 a y v H4/\D.nx σ H4):=rfl
theorem zvj:zut td ty σ H Q=(td σ H λx H1=>∃ a,x=.ref a/\IsD H1 a/\ty σ H1 λy H2=>∃ o,DGet H2 a y o/\Q (o.getD .non) H2):=rfl
theorem zvk:zsu σ H Q=(∀ p,H p=none->Q (.ref p) (upd H p (.dK []))):=rfl
theorem zvl:zus σ H Q=(∀ p,H p=none->Q (.ref p) (upd H p (.dT []))):=rfl
theorem zac3:tB te σ H QB=(te σ H λx H1=>∃ c,x=.bl c/\QB c H1):=rfl
theorem zr9:zmg K te σ H Q=(te σ H λx H1=>∃ (p:Addr) (ns:List Int),x=.ref p/\SqL K H1 p (ns.map V.int)/\ns.length<64 ∧
 ∀ (a:Addr) (o:HO) (D:Addr) (ks:List Int),H1 a=none->upd H1 a o D=none->ks.Pairwise (· <·)->(∀ x,x∈ks↔x∈ns)->ks.length<=ns.length->Q (.ref D) (upd (upd H1 a o) D (.lst (ks.map V.int)))):=rfl
variable{a b:Addr}{i j:Int}{z:Str}{kvs:List (Key × V)}{kvt:List (List Key × V)}{v:V}
theorem dS(e:H a=some (.dK kvs)):DGet H a (.str z) (valV kvs (.inr z)):=DGet.k (k:=.inr z) e
theorem dT2(e:H a=some (.dT kvt))(eb:H b=some (.tup [.int i,.int j])):DGet H a (.ref b) (valV kvt [.inl i,.inl j]):=DGet.t (k:=[.inl i,.inl j]) e eb
theorem dS'(e:H a=some (.dK kvs))(h:valV kvs (.inr z)=some v):DGet H a (.str z) (some v):=h ▸ dS e
theorem pT2(e:H a=some (.dT kvt))(eb:H b=some (.tup [.int i,.int j]))(hl:kvt.length<100000):DPut H a (.ref b) v (upd H a (.dT (putK kvt [.inl i,.inl j] v))):=DPut.t (k:=[.inl i,.inl j]) e eb (Nat.lt_of_lt_of_le hl (by decide))
end
end L2
set_option linter.all false
set_option maxRecDepth 100000
namespace L2
open PySem PySem.Spec PyProof.Rows
section
variable{X:Cx}
abbrev rInA(K:PySem.W.Frag):R2:=rIn K false
theorem zabu(hu:X.A.units+64<cLine):OpR X (compareOp .In) (rInA X.K):=zul
def rIsT:R2:=λx y H Q=>∃ c,y=.bl c/\(∀ p,x≠.ref p)/\(∀ T,x≠.ty T)/\Q (.bl (decide (x=.bl c))) H
end
theorem SqT.same{K:PySem.W.Frag}{H H':Hp}{a:Addr}{xs:List V}(e:Same H H')(h:SqT K H a xs):SqT K H' a xs:=by
 rcases h with(h | ⟨o,h⟩) | h
 ·exact .inl (.inl (e _ _ h))
 ·exact .inl (.inr ⟨o,e _ _ h⟩)
 ·exact .inr h
mutual
theorem Rep.same{K:PySem.W.Frag}{H H':Hp}(s:Same H H'):∀ {v:V} {d:PyData},Rep K H v d->Rep K H' v d
 | _,_,.non=>.non
 | _,_,.bl b=>.bl b
 | _,_,.int i=>.int i
 | _,_,.str x=>.str x
 | _,_,.lst h r=>.lst (s.seq h) (RepAll.same s r)
 | _,_,.tup h r=>.tup (SqT.same s h) (RepAll.same s r)
theorem RepAll.same{K:PySem.W.Frag}{H H':Hp}(s:Same H H'):∀ {vs:List V} {ds:List PyData},RepAll K H vs ds->RepAll K H' vs ds
 | _,_,.nil=>.nil
 | _,_,.cons h r=>.cons (Rep.same s h) (RepAll.same s r)
end
def Dat(K:PySem.W.Frag)(H:Hp)(n:Nat)(v:V)(d:PyData):Prop:=Rep K H v d/\d.canLay0=true/\d.depth<=n
section
variable{K:PySem.W.Frag}{H:Hp}{n:Nat}{Q:VK}
theorem Dat.int(i:Int):Dat K H n (.int i) (.int i):=⟨.int i,rfl,Nat.zero_le _⟩
theorem Dat.non:Dat K H n .non .none:=⟨.non,rfl,Nat.zero_le _⟩
theorem zsa:∀ {xs:List V} {ds:List PyData},Paired (Dat K H n) xs ds->RepAll K H xs ds/\PyData.canLayAll0 ds=true/\PyData.depthAll ds<=n
  | _,_,.nil=>⟨.nil,rfl,Nat.zero_le _⟩
  | _,_,.cons h t=>by
    obtain⟨a1,a2,a3⟩:=zsa t
    refine⟨.cons h.1 a1,?_,?_⟩
    ·simp[PyData.canLayAll0,h.2.1,a2]
    ·simp only[PyData.depthAll];exact Nat.max_le.mpr ⟨h.2.2,a3⟩
theorem Dat.lst{p:Addr}{xs:List V}{ds:List PyData}(h:SqL K H p xs)(hs:Paired (Dat K H n) xs ds):Dat K H (n+1) (.ref p) (.list ds):=by
 obtain⟨a1,a2,a3⟩:=zsa hs
 exact⟨.lst h a1,by simpa [PyData.canLay0]using a2,by simpa [PyData.depth]using a3⟩
theorem Dat.tup{p:Addr}{xs:List V}{ds:List PyData}(h:SqT K H p xs)(hs:Paired (Dat K H n) xs ds):Dat K H (n+1) (.ref p) (.tuple ds):=by
 obtain⟨a1,a2,a3⟩:=zsa hs
 exact⟨.tup h a1,by simpa [PyData.canLay0]using a2,by simpa [PyData.depth]using a3⟩
theorem Dat.shp{v:V}{d:PyData}(h:Dat K H n v d)(hn:n<=64):shp d:=by
 unfold L2.shp PySem.SeqAt.shaped
 rw[h.2.1]
 simpa using Nat.le_trans h.2.2 hn
theorem zjs:∀ (l:List Int),Paired (Dat K H n) (l.map V.int) (l.map PyData.int)
 | []=>.nil
 | x::r=>.cons (.int x) (zjs r)
theorem zabv{p q:Addr}{d:PyData}(hn:n<=64)(h1:Dat K H n (.ref p) d)(h2:Dat K H n (.ref q) d)(hq:Q (.bl true) H):rEqA K (.ref p) (.ref q) H Q:=by
 unfold rEqA
 rw[if_neg (by simp[scal])]
 refine⟨_,_,h1.1,h2.1,h1.shp hn,h1.shp hn,?_⟩
 rw[zs1 (h1.shp hn)]
 exact hq
theorem zq1{p q:Addr}{d:PyData}(hn:n<=64)(h1:Dat K H n (.ref p) d)(h2:Dat K H n (.ref q) d)(hq:Q (.bl false) H):rNeA K (.ref p) (.ref q) H Q:=by
 unfold rNeA
 rw[if_neg (by simp[scal])]
 refine⟨_,_,h1.1,h2.1,h1.shp hn,h1.shp hn,?_⟩
 rw[zs1 (h1.shp hn)]
 exact hq
end
end L2
namespace L2
open PySem PySem.Spec PyProof.Rows
theorem zabw{i:Int}{c:Bool}{H:Hp}{Q:VK}:rIsT (.int i) (.bl c) H Q=Q (.bl false) H:=by simp[rIsT]
theorem zabx{c:Bool}{H:Hp}{Q:VK}:rIsT .non (.bl c) H Q=Q (.bl false) H:=by simp[rIsT]
end L2
set_option linter.all false
set_option maxRecDepth 100000
namespace L2
open PySem PySem.Spec PyProof.Rows
section
variable{prog:Program}{w:World}{A:Around}{E:Value->Shared->Prop}{s:Shared}{d it:Addr}{od:Obj}{es:Array DictEntry}{ep i:Nat}
end
end L2
set_option linter.all false
set_option maxRecDepth 100000
namespace L2
open PySem PySem.Spec PyProof.Rows
theorem zlc:∀ {ys:List Str} {us:List Value},Vals (ys.map V.str) us->StrsAre us ys
  | [],_,.nil=>.nil
  | y::r,_,.cons h t=>by
    obtain⟨tk,rfl⟩:=h
    exact .cons _ _ (zlc t)
section
variable{X:Cx}
end
section
variable{K:PySem.W.Frag}{tt:TT}{te:TE}{cap:List Nat}{σ:St}{H:Hp}{Q:VK}
end
end L2
set_option linter.all false
set_option maxRecDepth 100000
set_option maxHeartbeats 4000000
namespace L2
open PySem PySem.Spec PyProof.Rows
section
variable{X:Cx}{tg:Expr}
end
section
variable{K:PySem.W.Frag}{tt:TT}{cap:List Nat}{σ:St}{H:Hp}{Q:VK}
def zadb(lo:Int)(n:Nat):List Int:=(List.range n).map λ(i:Nat)=>lo - (i:Int)
end
def cNx(n i:Nat)(P:Prop):Prop:=∃ m',m'<n - i/\m'=n - (i+1)/\i+1<=n/\P
theorem ztx{K:PySem.W.Frag}{g:TG}{tt:TT}{te:TE}{k:Nat}{cap:List Nat}{σ:St}{H:Hp}{Q:VK}{b:Addr}{xs:List V}(hn:xs.length<=sizeLine)(Pv:Nat->St->List V->Hp->Prop)(h0:Pv 0 (zo2 k cap σ) [] H)(hq:∀ i σ' ys H,Pv i σ' ys H->SqL K H b xs/\ys.length<=i)
  (hs:∀ i x σ' ys H,i<xs.length->xs[i]? =some x->Pv i σ' ys H->g x σ' H λσ2 H2=>tt σ2 H2 λc H3=>if c=true then ∃ N:VK,(∀ y H4,N y H4->cNx xs.length i (Pv (i+1) σ2 (ys++[y]) H4))/\te σ2 H3 N else cNx xs.length i (Pv (i+1) σ2 ys H3))
  (hd:∀ σ' ys H,Pv xs.length σ' ys H->∀ p,H p=none->Q (.ref p) (upd H p (.lst ys))):zmr (Itl K b) g tt te k cap σ H Q:=by
 refine⟨λi m σ' ys H=>m=xs.length - i/\i<=xs.length/\Pv i σ' ys H,⟨xs.length,by simp,Nat.zero_le _,h0⟩,?_⟩
 rintro i m σ' ys H ⟨rfl,hi,p⟩
 obtain⟨q,hl⟩:=hq i σ' ys H p
 by_cases hlt:i<xs.length
 ·refine .inr ⟨⟨xs,xs[i],q,by simp[hlt]⟩,by omega,λx H' y=> ?_⟩
  obtain⟨e,y⟩:=y
  subst e
  exact hs i x σ' ys _ hlt (y xs q) p
 ·have e:i=xs.length:=by omega
  subst e
  exact .inl ⟨⟨xs,q,Nat.le_refl _⟩,hd σ' ys H p⟩
section
variable{P:Program}{w:World}{A:Around}{E:Value->Shared->Prop}{s:Shared}
end
section
variable{X:Cx}
end
end L2
set_option linter.all false
set_option maxRecDepth 100000
set_option maxHeartbeats 4000000
namespace L2
open PySem PySem.Spec PyProof.Rows
section
variable{P:Program}{w:World}{A:Around}{E:Value->Shared->Prop}{s:Shared}
theorem zty{e it l:Addr}{i:Nat}{items:Array Value}{x old:Value}{Q:Option Value->Shared->Prop}(he:IsEnum s.heap e it i old)(hi:s.heap.IsListIter it l i)(hl:s.heap.IsList l items)(ex:items[i]? =some x)(ne:e≠it)
  (q:∀ h',IsEnumOut h' e it (i+1) x s.heap.objs.size->h'.IsListIter it l (i+1)->h'.get? s.heap.objs.size=some { cls:=Value.type "tuple",data:=Data.seq #[Value.int i s.toks,x] }->(∀ b o,b≠e->b≠it->s.heap.get? b=some o->h'.get? b=some o) →
   Q (some (.ref s.heap.objs.size)) { s with heap:=h',toks:=s.toks+1 }):wpAny (model P w) A (pyNext (.ref e)) Q E s:=by
 have ty:s.TypeIs (.ref e) "enumerate":=⟨_,he,rfl⟩
 unfold pyNext
 exact wpAny_bind (wpAny_attempt (wpAny_callSpecial?_slot (name:=Str.ofString "__next__") ty F.slot_enumerate_next (wpAny_call_entry F.slot_enumerate_next ty F.entry_enumerate_next
  (enumerate_next_item he hi hl ex ne λh' a1 a2 a3 _ a4=>wpAny_pure (q h' a1 a2 a3 a4)) (F.args_enumerate_next_1 _))))
theorem zxb{e it l:Addr}{i:Nat}{items:Array Value}{old:Value}{Q:Fin->Shared->Prop}(hh:A.handled=none)(he:IsEnum s.heap e it i old)(hi:s.heap.IsListIter it l i)(hl:s.heap.IsList l items)(ex:items[i]? =none)
  (q:∀ h' x,Heap.ExtBut it s.heap h'->(∃ o,h'.get? x=some o/\o.cls=.type "StopIteration")->E (.ref x) { s with heap:=h' }):wpAny (model P w) A (Builtin.«enumerate.__next__» ⟨[.ref e],[]⟩) Q E s:=by
 show wpAny (model P w) A (field (.ref e) 2 >>= _) _ _ s
 refine wpAny_bind (wpAny_field he rfl (x:=.ref it) rfl ?_)
 exact wpAny_bind (zacz (k:=true) hh hi hl ex q)
theorem ztz{e it l:Addr}{i:Nat}{items:Array Value}{old:Value}{Q:Option Value->Shared->Prop}(hh:A.handled=none)(he:IsEnum s.heap e it i old)(hi:s.heap.IsListIter it l i)(hl:s.heap.IsList l items)(ex:items[i]? =none)
  (q:∀ h',Heap.ExtBut it s.heap h'->Q none { s with heap:=h' }):wpAny (model P w) A (pyNext (.ref e)) Q E s:=by
 have ty:s.TypeIs (.ref e) "enumerate":=⟨_,he,rfl⟩
 unfold pyNext
 refine wpAny_bind (wpAny_attempt (wpAny_callSpecial?_slot (name:=Str.ofString "__next__") ty F.slot_enumerate_next (wpAny_call_entry F.slot_enumerate_next ty F.entry_enumerate_next (zxb hh he hi hl ex λh' x kk ⟨o,e1,e2⟩=> ?_) (F.args_enumerate_next_1 _))))
 exact wpAny_bind (wpAny_isInstance (T:="StopIteration") (b:=true) ⟨o,e1,e2⟩ isSubtype_stop (wpAny_pure (q _ kk)))
end
def Ite(K:PySem.W.Frag)(a:Addr):It :=
  ⟨λi H=>∃ xs x,SqL K H a xs/\xs[i]? =some x,
   λi H v H'=>∃ t,H t=none/\v=.ref t/\∃ x,H'=upd H t (.tup [.int (i:Int),x])/\∀ xs,SqL K H a xs->xs[i]? =some x,
   λi H=>∃ xs,SqL K H a xs/\xs.length<=i⟩
def EnSt(e it l:Addr)(i:Nat)(h:Heap):Prop:=(∃ old,IsEnum h e it i old)/\h.IsListIter it l i
theorem EnSt.lt{e it l:Addr}{i:Nat}{h:Heap}(q:EnSt e it l i h):∀ b∈[e,it],b<h.objs.size:=by
 obtain⟨⟨old,h1⟩,o,h2,_⟩:=q
 intro b hb
 simp only[List.mem_cons,List.not_mem_nil,or_false]at hb
 rcases hb with rfl | rfl
 ·exact Heap.lt_size h1
 ·exact Heap.lt_size h2
theorem zvm {P:Program} {w:World} {K:PySem.W.Frag} {elts:List Expr} {kn:Nat} {pos:Pos} {e it l:Addr} (ne:e≠it) :
    Turn P w K (.Tuple elts kn pos) (Ite K l) [e,it] e (λi h=>EnSt e it l i h) where
  mem:=by simp
  obj:=λi h st b hb=>by
    obtain⟨⟨old,h1⟩,h2⟩:=st
    obtain⟨o4,e4,d4⟩:=ItK.ob (k:=true) h2
    simp only[List.mem_cons,List.not_mem_nil,or_false]at hb
    rcases hb with rfl | rfl
    ·exact⟨_,h1,λv q=>by cases q⟩
    ·exact⟨_,e4,λv q=>by rw[d4]at q;cases q⟩
  keep:=λi h h' ⟨⟨old,h1⟩,h2⟩ q=>⟨⟨old,q e (by simp) _ h1⟩,ItK.up (k:=true) h2 λo x=>q it (by simp) o x⟩
  item := by
    intro X hP hw hK hc i pins s σ H E I hf st hg
    subst hP hw hK
    obtain⟨xs,x,hx,ex⟩:=hg
    obtain⟨its,rv,d1⟩:=I.seqK (k:=true) hx
    obtain⟨u,hu,ru⟩:=rv.get ex
    have lt:=EnSt.lt st
    obtain⟨⟨old,h1⟩,h2⟩:=st
    refine zty h1 h2 d1 (x:=u) (by simpa using hu) ne λh' g1 g2 g3 kk=>⟨_,rfl,?_⟩
    refine wpAny_letOwnedTupleGo_enum g1 λh2' z2 sb=> ?_
    have I1:=I.tnew (ys:=[.int (i:Int),x]) (its:=[Value.int (i:Int) s.toks,u]) (.cons (show RelV (.int (i:Int)) (Value.int (i:Int) s.toks)from⟨s.toks,rfl⟩) (.cons ru .nil)) (by show 2<=sizeLine;decide)
    have f':∀ b∈[e,it],b≠s.heap.objs.size:=λb hb=>Nat.ne_of_lt (lt b hb)
    have nz:s.heap.objs.size≠e:=(f' e (by simp)).symm
    have I2:Inv X pins σ (upd H s.heap.objs.size (.tup [.int (i:Int),x])) { s with heap:=h2',toks:=s.toks+1 }:=by
      refine Inv.turnedS (s:={ s with heap:=s.heap.push { cls:=Value.type "tuple",data:=Data.seq #[Value.int i s.toks,u] } }) (t':=s.toks+1) (fp:=[e,it]) I1 (λb o hb eo=> ?_) λb hb=>(hf b hb).upd (f' b hb)
      simp only[List.mem_cons,List.not_mem_nil,or_false,not_or]at hb
      rcases Heap.get?_push_cases eo with⟨e1,e2⟩ | e1
      · subst e1 e2
        exact sb.extBut _ _ nz g3
      ·exact sb.extBut _ _ hb.1 (kk _ _ hb.1 hb.2 e1)
    exact⟨.ref s.heap.objs.size,_,I2,rfl,⟨s.heap.objs.size,I.fresh,rfl,x,rfl,λys' q=>by rw[I.seqK_inj (k:=true) q hx];exact ex⟩,
      ⟨⟨_,z2⟩,ItK.up (k:=true) g2 λo x=>sb.extBut _ _ ne.symm x⟩,λb hb=>((hf b hb).upd (f' b hb)).1⟩
  done:=by
    intro X hP hw hK hc i pins s σ H E I hf st hg
    subst hP hw hK
    obtain⟨xs,hx,en⟩:=hg
    obtain⟨its,rv,d1⟩:=I.seqK (k:=true) hx
    obtain⟨⟨old,h1⟩,h2⟩:=st
    have e1:=rv.length
    refine ztz (I.ok.hd hc) h1 h2 d1 (by simp;omega) λh' kk=>⟨rfl,I.turnedS (t':=s.toks) (fp:=[e,it]) (λb o hb eo=> ?_) hf⟩
    simp only[List.mem_cons,List.not_mem_nil,or_false,not_or]at hb
    exact kk _ _ hb.2 eo
  self:=λ_ _ _ _ _ st h=>by
    obtain⟨⟨old,h1⟩,_⟩:=st
    exact wpAny_pyIter_enum h1 h
section
variable{X:Cx}
def zxc(K:PySem.W.Frag)(ta:TA):TI:=λσ H R=>ta σ H λvs H1=>∃ a:Addr,vs=[.ref a]/\(∃ xs,SqL K H1 a xs)/\R (Ite K a) H1
theorem zvn{a:Expr}{ta:TA}{p pos p2:Pos}{elts:List Expr}{kn:Nat}(hg:Gl X "enumerate")(hm:X.mg "enumerate"=none)(ha:PA X [a] ta)(hs:starEach [a] X.env=[(false,eval a X.env)]:=by rfl) :
  PI X (.Tuple elts kn p2) (.Call (.Name "enumerate" p) [a] [] pos) (zxc X.K ta):=by
 intro pins s σ H R I h
 refine Call_ (zp5 I hg hm boot_enumerate (PyProof.Rows.callWith_type1 (thn (ha pos pins s σ H _ I h) λus s1 ⟨vs,H1,I1,r1,q1⟩=> ?_) (by rw[hs];rfl) (by rfl)))
 obtain⟨l,e,⟨xs,hx⟩,q⟩:=q1
 subst e
 obtain⟨u,rfl,rx⟩:=zp9 r1
 cases rx
 obtain⟨its,rv,d1⟩:=I1.seqK (k:=true) hx
 refine call_enumerate_list d1 λh' z1 z2 sz kk=>wpAny_pyIter_enum z1 ?_
 have I2:Inv X pins σ H1 { s1 with heap:=h' }:=I1.kept (t':=s1.toks) kk
 refine⟨_,[s1.heap.objs.size+1,s1.heap.objs.size],_,_,H1,rfl,I2,zvm (Nat.ne_of_gt (by omega)),⟨⟨_,z1⟩,z2⟩,λb hb=>I1.fpOk ?_ (I1.hok.fresh ?_),q⟩
 all_goals
  simp only[List.mem_cons,List.not_mem_nil,or_false]at hb
  rcases hb with rfl | rfl<;>omega
end
theorem zq2{K:PySem.W.Frag}{as:TA}{g:TG}{s1:TS}{D:Ends}{σ:St}{H:Hp}:tFor (zxc K as) g s1 D σ H=(as σ H λvs H1=>∃ a:Addr,vs=[.ref a]/\(∃ xs,SqL K H1 a xs)/\zo6 (Ite K a) g s1 D σ H1):=rfl
theorem zq3{K:PySem.W.Frag}{σ:St}{H:Hp}{a:Addr}{xs:List V}{g:TG}{tb:TS}{D:Ends}(Pv:Nat->St->Hp->Prop)(h0:Pv 0 σ H)(ha:∀ i σ H,i<=xs.length->Pv i σ H->SqL K H a xs)
  (hs:∀ i x σ H t,xs[i]? =some x->Pv i σ H->H t=none->g (.ref t) σ (upd H t (.tup [.int (i:Int),x])) λσ2 H2=>tb { D with nx:=Pv (i+1),ct:=Pv (i+1),bk:=D.nx } σ2 H2) (hd:∀ σ H,Pv xs.length σ H->D.nx σ H):zo6 (Ite K a) g tb D σ H:=by
 refine⟨λi m σ H=>i+m=xs.length/\Pv i σ H,⟨xs.length,by omega,h0⟩,λi m σ H ⟨e,p⟩=> ?_⟩
 have h1:=ha i σ H (by omega) p
 by_cases hi:i<xs.length
 ·refine .inr ⟨⟨xs,xs[i],h1,List.getElem?_eq_getElem hi⟩,Pv (i+1),λσ' H' q=>⟨m - 1,by omega,by omega,q⟩,λv H' ⟨t,ht,e,x,e',q1⟩=> ?_⟩
  subst e e'
  exact hs i x σ H t (q1 _ h1) p ht
 ·have e:i=xs.length:=by omega
  subst e
  exact .inl ⟨⟨xs,h1,Nat.le_refl _⟩,hd _ _ p⟩
def rInB(K:PySem.W.Frag):R2:=λx y H Q=>rInA K x y H Q\/∃ t ts p xs,x=.ref t/\SqT K H t ts/\y=.ref p/\SqT K H p xs/\(∀ z∈xs,z=.non\/∃ i,z=.int i)/\Q (.bl false) H
theorem zs5:∀ {xs:List V} {us:List Value} {u:Value},Vals xs us->u∈us->∃ x∈xs,RelV x u
  | _,_,_,.nil,h=>by cases h
  | _,_,_,.cons r t,h=>by
    rcases List.mem_cons.mp h with rfl | h
    ·exact⟨_,List.mem_cons_self ..,r⟩
    · obtain⟨x,hx,e⟩:=zs5 t h
      exact⟨x,List.mem_cons_of_mem _ hx,e⟩
theorem zaby {X:Cx} (hu:X.A.units+64<cLine):OpR X (compareOp .In) (rInB X.K):=by
  intro pins s σ H x y v u Q I rx ry h
  rcases h with h | ⟨t,ts,p,xs,rfl,ht,rfl,hp,hx,q⟩
  ·exact zabu hu pins s σ H x y v u Q I rx ry h
  · cases rx
    cases ry
    obtain⟨its,r,pl,hz⟩:=I.tuple hp
    obtain⟨tts,tr,tl,_⟩:=I.tuple ht
    have hin:X.A.in1.units<cLine:=by
      have:X.A.in1.units=X.A.units+1:=rfl
      omega
    refine SeqAt.in_tupleAt (λ_=>false) pl (λz hz'=> ?_) ⟨.bl _,H,I,rfl,?_⟩
    · obtain⟨z0,h0,r0⟩:=zs5 r (by simpa using hz')
      rcases hx z0 h0 with rfl | ⟨i,rfl⟩
      · cases r0
        exact SeqAt.EqAt.none_tuple tl hin
      · obtain⟨tk,rfl⟩:=r0
        exact SeqAt.EqAt.int_tuple _ _ tl hin
    · have:its.toArray.any (λ_=>false)=false:=by
        rw[Array.any_eq_false]
        simp
      rw[this]
      exact q
end L2
set_option linter.all false
set_option maxRecDepth 100000
set_option maxHeartbeats 4000000
namespace L2
open PySem PySem.Spec PyProof.Rows
section
variable{X:Cx}
theorem zq4:∀ {us:List Value} {ys:List Str},StrsAre us ys->Vals (ys.map V.str) us
 | _,_,.nil=>.nil
 | _,_,.cons z t h=>.cons ⟨_,rfl⟩ (zq4 h)
def zfw (K:PySem.W.Frag):List V->Hp->VK->Prop:=λxs H Q=>∃ (p:Addr) (ys:List Str),xs=[.ref p]/\SqL K H p (ys.map V.str)/\ys.length<64 ∧
    ∀ (D:Addr) (ks:List Str),H D=none->ks.Perm ys->sortedS ks=true->Q (.ref D) (upd H D (.lst (ks.map V.str)))
theorem zld(hc:X.calm=true):CallR X (.builtin "sorted") (zfw X.K):=by
 intro pins s σ H xs us Q I r h
 obtain⟨p,ys,rfl,hp,hn,q⟩:=h
 obtain⟨u,rfl,rx⟩:=zp9 r
 cases rx
 obtain⟨its,rv,pl,hz⟩:=I.list hp
 have hi:=zlc rv
 have hlen:its.length=ys.length:=by have:=rv.length;simpa using this.symm
 refine sorted_strs pl.isList hi (by omega) λout ks ho pk hr=> ?_
 obtain⟨c,g⟩:=sortedAll_at s.heap its out
 have hD:s.heap.objs.size<=s.heap.objs.size+1:=Nat.le_succ _
 refine⟨.ref _,_,I.laid (t':=s.toks) (λb o e=>sortedAll_old e) hD ?_,rfl,q _ ks (I.hok.fresh hD) pk hr⟩
 have hl:ks.length<64:=by rw[pk.length_eq];exact hn
 exact⟨by rw[List.length_map,sizeLine_eq];omega,out.toList,c,zq4 ho,g⟩
def zg5(K:PySem.W.Frag):List V->Hp->VK->Prop:=λxs H Q=>∃ i j,xs=[.int i,.int j]/\Q (.int (if j<i then j else i)) H
theorem zt0(hc:X.calm=true):CallR X (.builtin "min") (zg5 X.K):=zug hc
theorem zabz{K:PySem.W.Frag}{i j:Int}{H:Hp}{Q:VK}:zg5 K [.int i,.int j] H Q=Q (.int (if j<i then j else i)) H:=propext ⟨λ⟨_,_,e,q⟩=>by cases e;exact q,λq=>⟨_,_,rfl,q⟩⟩
theorem zki:∀ {l:List Str},sortedS l=true->l.Pairwise λa b=>¬ b.cps.toList<a.cps.toList
  | [],_=>.nil
  | [x],_=>List.pairwise_singleton _ _
  | x :: y::r,h=>by
    have h':(!Spec.ltCps y.cps.toList x.cps.toList && risingS y r)=true:=h
    rw[Bool.and_eq_true,Bool.not_eq_true',ltCps_eq,decide_eq_false_iff_not]at h'
    have ih:(y::r).Pairwise λa b=>¬ b.cps.toList<a.cps.toList:=zki (l:=y::r) h'.2
    refine List.pairwise_cons.mpr ⟨λz hz=> ?_,ih⟩
    rcases List.mem_cons.mp hz with e | hz
    ·rw[e];exact h'.1
    · have h2:=(List.pairwise_cons.mp ih).1 z hz
      exact λhlt=>by
        have a1:x.cps.toList<=y.cps.toList:=List.not_lt.mp h'.1
        have a2:y.cps.toList<=z.cps.toList:=List.not_lt.mp h2
        exact absurd hlt (List.not_lt.mpr (List.le_trans a1 a2))
theorem zq5{l m:List Str}(h1:sortedS l=true)(h2:sortedS m=true)(p:l.Perm m):l=m :=
 List.Perm.eq_of_pairwise (λa b _ _ h h'=>by
  have e:=List.le_antisymm (List.not_lt.mp h) (List.not_lt.mp h')
  cases a;cases b
  exact congrArg Str.mk (Array.toList_inj.mp e)) (zki h1) (zki h2) p
end
end L2
set_option linter.all false
namespace L2
open PySem PySem.Spec PyProof.Rows
abbrev Ad:=String->Addr
def SameBut(F:Addr->Prop)(H H':Hp):Prop:=∀ b o,H b=some o->¬ F b->H' b=some o
structure zey(K:PySem.W.Frag)(a:Ad):Prop where
 cl:Cls K (a "Plank")
 nC:NoAttr K (a "Plank") "contents"
 nW:NoAttr K (a "Plank") "width"
 nN:NoAttr K (a "Plank") "written"
def pf(cl:Addr)(w n:Int):List (Str × V):=[("contents",.ref cl),("width",.int w),("written",.int n)]
theorem zab0:¬ ("contents":Str)="width":=by decide +kernel
theorem zac4:¬ ("contents":Str)="written":=by decide +kernel
theorem zac5:¬ ("width":Str)="written":=by decide +kernel
theorem pf_c(cl:Addr)(w n:Int):(pf cl w n).lookup ("contents":Str)=some (V.ref cl):=by simp[pf]
theorem pf_w(cl:Addr)(w n:Int):(pf cl w n).lookup ("width":Str)=some (V.int w):=by
 have h:(("width":Str) == "contents")=false:=beq_eq_false_iff_ne.mpr (Ne.symm zab0)
 simp[pf,List.lookup_cons,h]
theorem zab1(cl:Addr)(w n:Int):putF "written" (.int n) (putF "width" (.int w) (putF "contents" (.ref cl) []))=pf cl w n:=by
 simp only[putF,pf]
 rw[if_neg zab0]
 simp only[putF]
 rw[if_neg zac4,if_neg zac5]
theorem zxd(cl:Addr)(w n:Int){m:Str}(h1:¬ m="contents")(h2:¬ m="width")(h3:¬ m="written"):(pf cl w n).lookup m=none:=by
 have e1:=beq_eq_false_iff_ne.mpr h1
 have e2:=beq_eq_false_iff_ne.mpr h2
 have e3:=beq_eq_false_iff_ne.mpr h3
 simp[pf,List.lookup_cons,e1,e2,e3]
structure PlankAt(a:Ad)(H:Hp)(p cl:Addr)(w:Nat)(rows:List (List V))(n:Nat):Prop where
 ob:∃ dx,H p=some (.ins (a "Plank") dx (pf cl w n))
 ls:∃ ts:List Addr,H cl=some (.lst (ts.map V.ref))/\Paired (λt r=>H t=some (.tup r)) ts rows
 wd:∀ r∈rows,r.length=w
 sz:rows.length<=1000
 sw:w<=1000
theorem PlankAt.ne{a:Ad}{H:Hp}{p cl:Addr}{w:Nat}{rows:List (List V)}{n:Nat}(P:PlankAt a H p cl w rows n):p≠cl:=by
 obtain⟨⟨dx,h1⟩,⟨ts,h2,_⟩,_⟩:=P
 exact ze6 h1 h2 (by intro z;cases z)
theorem PlankAt.keep{a:Ad}{H H':Hp}{p cl:Addr}{w:Nat}{rows:List (List V)}{n:Nat}(P:PlankAt a H p cl w rows n)(h1:H' p=H p)(h2:H' cl=H cl)(h3:∀ b xs,H b=some (.tup xs)->H' b=some (.tup xs)):PlankAt a H' p cl w rows n:=by
 obtain⟨⟨dx,e1⟩,⟨ts,e2,e3⟩,r1,r2,r3⟩:=P
 exact⟨⟨dx,h1.trans e1⟩,⟨ts,h2.trans e2,Paired.mapP e3 λt r q=>h3 t r q⟩,r1,r2,r3⟩
theorem PlankAt.same{a:Ad}{H H':Hp}{p cl:Addr}{w:Nat}{rows:List (List V)}{n:Nat}(P:PlankAt a H p cl w rows n)(s:Same H H'):PlankAt a H' p cl w rows n:=by
 obtain⟨⟨dx,e1⟩,⟨ts,e2,e3⟩,r1,r2,r3⟩:=P
 exact⟨⟨dx,s _ _ e1⟩,⟨ts,s _ _ e2,Paired.mapP e3 λt r q=>s _ _ q⟩,r1,r2,r3⟩
def zcf(K:PySem.W.Frag)(a:Ad):Sp:=λvs H Q _=>∃ (p dx:Addr) (m w:Nat),vs=[.ref p,.int m,.int w]/\zey K a/\H p=some (.ins (a "Plank") dx [])/\m<=1000/\1<=w/\w<=1000 ∧
 ∀ cl H',H cl=none->PlankAt a H' p cl w (List.replicate m (List.replicate w .non)) 0->SameBut (· =p) H H'->Q .non H'
def zbc(K:PySem.W.Frag)(a:Ad):Sp:=λvs H Q _=>∃ p cl w rows n,vs=[.ref p]/\zey K a/\PlankAt a H p cl w rows n/\Q (.int rows.length) H
def zb4(K:PySem.W.Frag)(a:Ad):Sp:=λvs H Q _=>∃ (p cl:Addr) (w:Nat) (rows:List (List V)) (n:Nat),vs=[.ref p]/\zey K a/\PlankAt a H p cl w rows n/\Q (.int w) H
def zat(K:PySem.W.Frag)(a:Ad):Sp:=λvs H Q E=>∃ (p cl:Addr) (w:Nat) (rows:List (List V)) (n:Nat) (b:Int),vs=[.ref p,.int b]/\zey K a/\PlankAt a H p cl w rows n ∧
 (0<=b->b<rows.length->Q .non H)/\(b<0\/rows.length<=b->E (.ref (a "NoBlock")) none H)
def zcg(K:PySem.W.Frag)(a:Ad):Sp:=λvs H Q E=>∃ (p cl:Addr) (w:Nat) (rows:List (List V)) (n:Nat) (b:Int),vs=[.ref p,.int b]/\zey K a/\PlankAt a H p cl w rows n ∧
 (∀ (i:Nat) row,b=i->rows[i]? =some row->∀ l,H l=none->Q (.ref l) (upd H l (.lst row)))/\(b<0\/rows.length<=b->E (.ref (a "NoBlock")) none H)
end L2
set_option linter.all false
namespace L2
open PySem PySem.Spec PyProof.Rows
theorem zh5{K:PySem.W.Frag}{H:Hp}{p:Addr}{xs:List V}{i:Int}{n:Nat}{v:V}{Q:VK}(h:H p=some (.tup xs))(hi:i=n)(hx:xs[n]? =some v)(q:Q v H):rIxA K (.ref p) (.int i) H Q :=
 .inr (.inl ⟨p,xs,i,v,rfl,rfl,SqT.of h,by rw[hi];exact zrt hx,q⟩)
theorem zs6{C C' dx dx':Addr}{fs fs':List (Str × V)}(h:fs≠fs'):HO.ins C dx fs≠HO.ins C' dx' fs':=by
 intro z
 injection z with _ _ z
 exact h z
theorem SameBut.refl{F:Addr->Prop}(H:Hp):SameBut F H H:=λ_ _ e _=>e
theorem SameBut.trans{F:Addr->Prop}{H H' H2:Hp}(s:SameBut F H H')(t:SameBut F H' H2):SameBut F H H2:=λb o e n=>t _ _ (s _ _ e n) n
theorem SameBut.wide{F G:Addr->Prop}{H H':Hp}(s:SameBut F H H')(i:∀ x,F x->G x):SameBut G H H':=λb o e n=>s _ _ e λz=>n (i _ z)
theorem Same.sb{F:Addr->Prop}{H H':Hp}(s:Same H H'):SameBut F H H':=λb o e _=>s b o e
theorem SqL.on{K:PySem.W.Frag}{H H':Hp}{x:Addr}{xs:List V}(h:SqL K H x xs)(k:∀ o,H x=some o->H' x=some o):SqL K H' x xs:=by
 rcases h with(h | ⟨o,h⟩) | h
 ·exact .inl (.inl (k _ h))
 ·exact .inl (.inr ⟨o,k _ h⟩)
 ·exact .inr h
theorem SqL.sb{K:PySem.W.Frag}{F:Addr->Prop}{H H':Hp}{x:Addr}{xs:List V}(h:SqL K H x xs)(s:SameBut F H H')(f:∀ o,H x=some o->¬ F x):SqL K H' x xs:=by
 rcases h with(h | ⟨o,h⟩) | h
 ·exact .inl (.inl (s _ _ h (f _ h)))
 ·exact .inl (.inr ⟨o,s _ _ h (f _ h)⟩)
 ·exact .inr h
theorem SameBut.upd{F:Addr->Prop}{H H':Hp}{p:Addr}{o:HO}(s:SameBut F H H')(h:F p\/H p=none):SameBut F H (upd H' p o):=λb u e n=>by
 have:b≠p:=by
  rcases h with h | h
  ·exact λz=>n (z ▸ h)
  ·exact zak e h
 rw[zah this];exact s _ _ e n
structure Ch where
 blk:Nat
 cell:Nat
 val:V
 nd:List Int
def zia:List Ch->Int->Int->Option Nat
 | [],_,_=>none
 | c::r,i,j=>if(c.blk:Int)=i/\(c.cell:Int)=j then some r.length else zia r i j
def zbs(cs:List Ch)(i j:Int):Option Nat:=zia cs.reverse i j
def zos:List Ch->Nat->List Nat
 | [],_=>[]
 | c::r,b=>if c.blk=b then zos r b++[r.length]else zos r b
def zsb(cs:List Ch)(b:Nat):List Nat:=zos cs.reverse b
theorem zd8(cs:List Ch)(c:Ch)(i j:Int):zbs (cs++[c]) i j=if(c.blk:Int)=i/\(c.cell:Int)=j then some cs.length else zbs cs i j:=by
 simp[zbs,zia]
theorem zt1(cs:List Ch)(c:Ch)(b:Nat):zsb (cs++[c]) b=if c.blk=b then zsb cs b++[cs.length]else zsb cs b:=by
 simp[zsb,zos]
theorem zkj:∀ {l:List Ch} {i j:Int} {k:Nat},zia l i j=some k->k<l.length
  | [],_,_,_,h=>by cases h
  | c :: r,i,j,k,h=>by
    unfold zia at h
    split at h
    ·cases h;simp
    · have:=zkj h
      simp only[List.length_cons];omega
theorem zgg{cs:List Ch}{i j:Int}{k:Nat}(h:zbs cs i j=some k):k<cs.length:=by
 have:=zkj h
 rwa [List.length_reverse]at this
theorem zot:∀ (l:List Ch) (b:Nat),(zos l b).length<=l.length
  | [],_=>Nat.le_refl _
  | c::r,b=>by
    have:=zot r b
    unfold zos
    split<;>simp<;>omega
theorem zvo(cs:List Ch)(b:Nat):(zsb cs b).length<=cs.length:=by
 have:=zot cs.reverse b
 rwa [List.length_reverse]at this
def chf(pl:Addr)(v:V)(nt:Addr):List (Str × V):=[("place",.ref pl),("value",v),("needs",.ref nt)]
def bf(gp m mi lt ou:Addr):List (Str × V):=[("ground",.ref gp),("made",.ref m),("made_in",.ref mi),("latest",.ref lt),("outs",.ref ou)]
def zib(a b:Str):Bool:=a == b
section
variable{pl nt gp m mi lt ou:Addr}{v:V}
theorem s_ne{a b:Str}(h:zib a b=false):(a == b)=false:=h
theorem zac6:(chf pl v nt).lookup ("value":Str)=some v:=by
 simp[chf,List.lookup_cons,s_ne (a:="value") (b:="place") (by decide +kernel)]
theorem zac7:(chf pl v nt).lookup ("needs":Str)=some (V.ref nt):=by
 simp[chf,List.lookup_cons,s_ne (a:="needs") (b:="place") (by decide +kernel),s_ne (a:="needs") (b:="value") (by decide +kernel)]
theorem zkk{f g:Str}{x y:V}{r:List (Str × V)}(h:zib g f=false):putF f y ((g,x)::r)=(g,x)::putF f y r:=by
 have:¬ g=f:=λe=>by rw[e]at h;simp[zib]at h
 simp[putF,this]
theorem zho{f:Str}{y:V}:putF f y []=[(f,y)]:=rfl
theorem zzt:putF "needs" (.ref nt) (putF "value" v (putF "place" (.ref pl) []))=chf pl v nt:=by
 rw[zho,zkk (by decide +kernel),zho,zkk (by decide +kernel),zkk (by decide +kernel),zho]
 rfl
theorem bf_g:(bf gp m mi lt ou).lookup ("ground":Str)=some (V.ref gp):=by simp[bf]
theorem bf_m:(bf gp m mi lt ou).lookup ("made":Str)=some (V.ref m):=by
 simp[bf,List.lookup_cons,s_ne (a:="made") (b:="ground") (by decide +kernel)]
theorem bf_i:(bf gp m mi lt ou).lookup ("made_in":Str)=some (V.ref mi):=by
 simp[bf,List.lookup_cons,s_ne (a:="made_in") (b:="ground") (by decide +kernel),s_ne (a:="made_in") (b:="made") (by decide +kernel)]
theorem bf_l:(bf gp m mi lt ou).lookup ("latest":Str)=some (V.ref lt):=by
 simp[bf,List.lookup_cons,s_ne (a:="latest") (b:="ground") (by decide +kernel),s_ne (a:="latest") (b:="made") (by decide +kernel),s_ne (a:="latest") (b:="made_in") (by decide +kernel)]
theorem zhr{x:Str}(h:(zib x "ground" || zib x "made" || zib x "made_in" || zib x "latest" || zib x "outs")=false):(bf gp m mi lt ou).lookup x=none:=by
 simp only[Bool.or_eq_false_iff]at h
 obtain⟨⟨⟨⟨h1,h2⟩,h3⟩,h4⟩,h5⟩:=h
 simp[bf,List.lookup_cons,s_ne h1,s_ne h2,s_ne h3,s_ne h4,s_ne h5]
theorem zab2:putF "outs" (.ref ou) (putF "latest" (.ref lt) (putF "made_in" (.ref mi) (putF "made" (.ref m) (putF "ground" (.ref gp) []))))=bf gp m mi lt ou:=by
 repeat (first | rw[zho] | rw[zkk (by decide +kernel)])
 rfl
end
structure zab3(K:PySem.W.Frag)(C D:Addr):Prop where
 cl:Cls K C
 nG:NoAttr K C "ground"
 nM:NoAttr K C "made"
 nI:NoAttr K C "made_in"
 nL:NoAttr K C "latest"
 nO:NoAttr K C "outs"
 cc:Cls K D
 nP:NoAttr K D "place"
 nV:NoAttr K D "value"
 nN:NoAttr K D "needs"
def ChAt(D:Addr)(H:Hp)(x:Addr)(c:Ch):Prop:=∃ dx pl nt,H x=some (.ins D dx (chf pl c.val nt))/\H pl=some (.tup [.int c.blk,.int c.cell])/\H nt=some (.tup (c.nd.map V.int))
structure BA where
 b:Addr
 gp:Addr
 m:Addr
 mi:Addr
 lt:Addr
 ou:Addr
 ls:List Addr
 cl:Addr
def BA.F(A:BA)(x:Addr):Prop:=x=A.m\/x=A.mi\/x∈A.ls\/x=A.lt\/x=A.ou\/x=A.cl
def KeysOk(kvo:List (Key × V))(n:Nat):Prop:=(kvo.map (·.1)).Nodup/\∀ p∈kvo,∃ x:Nat,p.1=Sum.inl (x:Int)/\x<n
theorem KeysOk.mono{kvo:List (Key × V)}{n m:Nat}(h:KeysOk kvo n)(hm:n<=m):KeysOk kvo m:=⟨h.1,λp hp=>by obtain⟨x,e,hx⟩:=h.2 p hp;exact⟨x,e,by omega⟩⟩
theorem KeysOk.len{kvo:List (Key × V)}{n:Nat}(h:KeysOk kvo n):kvo.length<=n:=by
 have:=List.Nodup.length_le_of_subset (l₂:=(List.range n).map λ(k:Nat)=>(Sum.inl (k:Int):Key)) h.1 λk hk=>by
  obtain⟨p,hp,rfl⟩:=List.mem_map.mp hk
  obtain⟨x,e,hx⟩:=h.2 p hp
  rw[e]
  exact List.mem_map.mpr ⟨x,List.mem_range.mpr hx,rfl⟩
 simpa using this
theorem KeysOk.put{kvo:List (Key × V)}{n:Nat}(h:KeysOk kvo n){k:Nat}(hk:k<n)(hn:valV kvo (.inl (k:Int))=none)(v:V):KeysOk (putK kvo (.inl (k:Int)) v) n:=by
 refine⟨zyl v h.1 hn,λp hp=> ?_⟩
 rw[zst v hn]at hp
 rcases List.mem_append.mp hp with hp | hp
 ·exact h.2 p hp
 ·rw[List.mem_singleton.mp hp];exact⟨k,rfl,hk⟩
structure BookIn(C D:Addr)(H:Hp)(A:BA)(w:Nat)(cs:List Ch)(outs:Int->Bool):Prop where
 ob:∃ dx,H A.b=some (.ins C dx (bf A.gp A.m A.mi A.lt A.ou))
 made:∃ chs:List Addr,H A.m=some (.lst (chs.map V.ref))/\Paired (ChAt D H) chs cs
 mil:H A.mi=some (.lst (A.ls.map V.ref))
 mic:∀ (i:Nat) l,A.ls[i]? =some l->H l=some (.lst ((zsb cs i).map λ(k:Nat)=>V.int k))
 nd:A.ls.Nodup
 lat:∃ kvs,H A.lt=some (.dT kvs)/\(∀ i j:Int,valV kvs [.inl i,.inl j]=(zbs cs i j).map λ(k:Nat)=>V.int k)/\kvs.length<=cs.length
 out:∃ kvo,H A.ou=some (.dK kvo)/\(∀ k:Int,(valV kvo (.inl k)).isSome=outs k)/\KeysOk kvo cs.length
 sz:cs.length<=500
 inn:∀ c∈cs,c.blk<A.ls.length/\c.cell<w
 need:∀ (k:Nat) c,cs[k]? =some c->(∀ x∈c.nd,0<=x/\x<k)/\c.nd.Pairwise (· <·)/\c.nd.length<=100
 ap:A.m≠A.mi/\A.m∉A.ls/\A.mi∉A.ls/\A.cl≠A.m/\A.cl≠A.mi/\A.cl∉A.ls
 chn:∀ (k:Nat) c,cs[k]? =some c->∀ j,zbs (cs.take k) c.blk c.cell=some j->(j:Int)∈c.nd
structure BookAt(a:Ad)(C:Addr)(H:Hp)(A:BA)(w:Nat)(rows:List (List V))(n:Nat)(cs:List Ch)(outs:Int->Bool):Prop where
 bk:BookIn C (a "Change") H A w cs outs
 pk:PlankAt a H A.gp A.cl w rows n
 nb:A.ls.length=rows.length
def zlj(o:Option HO):Prop:=(∀ xs,o≠some (.tup xs))/\∀ C dx fs,o≠some (.ins C dx fs)
theorem ChAt.sb{D:Addr}{G:Addr->Prop}{H H':Hp}(s:SameBut G H H')(g:∀ x,G x->zlj (H x)){x:Addr}{c:Ch}(h:ChAt D H x c):ChAt D H' x c:=by
 obtain⟨dx,pl,nt,e1,e2,e3⟩:=h
 exact⟨dx,pl,nt,s _ _ e1 λz=>(g _ z).2 _ _ _ e1,s _ _ e2 λz=>(g _ z).1 _ e2,s _ _ e3 λz=>(g _ z).1 _ e3⟩
theorem BookIn.sb{C D:Addr}{G:Addr->Prop}{H H':Hp}{A:BA}{w:Nat}{cs:List Ch}{outs:Int->Bool}(B:BookIn C D H A w cs outs)(s:SameBut G H H')(g:∀ x,G x->zlj (H x))(f:∀ x,G x->¬ A.F x):BookIn C D H' A w cs outs:=by
 obtain⟨⟨dx,e1⟩,⟨chs,e2,e3⟩,e4,e5,e6,⟨kvs,e7,e8⟩,⟨kvo,e9,e10⟩,r1,r2,r3,r4,r5⟩:=B
 refine⟨⟨dx,s _ _ e1 λz=>(g _ z).2 _ _ _ e1⟩,⟨chs,s _ _ e2 λz=>f _ z (.inl rfl),Paired.mapP e3 λx c h=>h.sb s g⟩,s _ _ e4 λz=>f _ z (.inr (.inl rfl)),λi l h=>s _ _ (e5 i l h) λz=>f _ z (.inr (.inr (.inl (List.mem_of_getElem? h)))),e6,
  ⟨kvs,s _ _ e7 λz=>f _ z (.inr (.inr (.inr (.inl rfl)))),e8⟩,⟨kvo,s _ _ e9 λz=>f _ z (.inr (.inr (.inr (.inr (.inl rfl))))),e10⟩,r1,r2,r3,r4,r5⟩
theorem PlankAt.sbL{a:Ad}{G:Addr->Prop}{H H':Hp}{p cl:Addr}{w:Nat}{rows:List (List V)}{n:Nat}(P:PlankAt a H p cl w rows n)(s:SameBut G H H')(g:∀ x,G x->zlj (H x))(h:¬ G cl):PlankAt a H' p cl w rows n:=by
 obtain⟨⟨dx,e1⟩,⟨ts,e2,e3⟩,r1,r2,r3⟩:=P
 exact⟨⟨dx,s _ _ e1 λz=>(g _ z).2 _ _ _ e1⟩,⟨ts,s _ _ e2 h,Paired.mapP e3 λt r q=>s _ _ q λz=>(g _ z).1 _ q⟩,r1,r2,r3⟩
theorem BookAt.sb{a:Ad}{C:Addr}{G:Addr->Prop}{H H':Hp}{A:BA}{w:Nat}{rows:List (List V)}{n:Nat}{cs:List Ch}{outs:Int->Bool}(B:BookAt a C H A w rows n cs outs)(s:SameBut G H H')(g:∀ x,G x->zlj (H x))(f:∀ x,G x->¬ A.F x):BookAt a C H' A w rows n cs outs :=
 ⟨B.bk.sb s g f,B.pk.sbL s g λz=>f _ z (.inr (.inr (.inr (.inr (.inr rfl))))),B.nb⟩
theorem BookAt.same{a:Ad}{C:Addr}{H H':Hp}{A:BA}{w:Nat}{rows:List (List V)}{n:Nat}{cs:List Ch}{outs:Int->Bool}(B:BookAt a C H A w rows n cs outs)(s:Same H H'):BookAt a C H' A w rows n cs outs :=
 B.sb (G:=λ_=>False) (Same.sb s) (λ_ z=>z.elim) λ_ z=>z.elim
theorem BookAt.off{a:Ad}{C:Addr}{H:Hp}{A:BA}{w:Nat}{rows:List (List V)}{n:Nat}{cs:List Ch}{outs:Int->Bool}(B:BookAt a C H A w rows n cs outs){x:Addr}(h:H x=none):¬ A.F x:=by
 obtain⟨⟨_,⟨chs,e2,_⟩,e4,e5,_,⟨kvs,e7,_⟩,⟨kvo,e9,_⟩,_⟩,⟨_,⟨ts,e11,_⟩,_⟩,_⟩:=B
 rintro (z | z | z | z | z | z)
 ·rw[z,e2]at h;cases h
 ·rw[z,e4]at h;cases h
 ·obtain⟨i,hi,e⟩:=List.getElem_of_mem z
  have:=e5 i x (by rw[<-e];exact List.getElem?_eq_getElem hi)
  rw[this]at h;cases h
 ·rw[z,e7]at h;cases h
 ·rw[z,e9]at h;cases h
 ·rw[z,e11]at h;cases h
theorem zxu{α :Type}{l:List α}{x: α}(h:x∈l):∃ i:Nat,l[i]? =some x:=by
 obtain⟨i,hi,e⟩:=List.getElem_of_mem h
 exact⟨i,by rw[<-e];exact List.getElem?_eq_getElem hi⟩
theorem zmu{H:Hp}{x:Addr}{xs:List V}(h:H x=some (.lst xs)):zlj (H x):=by
 rw[h];exact⟨λ_ z=>(by cases z),λ_ _ _ z=>(by cases z)⟩
theorem zzu{H:Hp}{x:Addr}{xs:List (Key × V)}(h:H x=some (.dK xs)):zlj (H x):=by
 rw[h];exact⟨λ_ z=>(by cases z),λ_ _ _ z=>(by cases z)⟩
theorem zzv{H:Hp}{x:Addr}{xs:List (List Key × V)}(h:H x=some (.dT xs)):zlj (H x):=by
 rw[h];exact⟨λ_ z=>(by cases z),λ_ _ _ z=>(by cases z)⟩
theorem BookAt.loose{a:Ad}{C:Addr}{H:Hp}{A:BA}{w:Nat}{rows:List (List V)}{n:Nat}{cs:List Ch}{outs:Int->Bool}(B:BookAt a C H A w rows n cs outs){x:Addr}(h:A.F x):zlj (H x):=by
 obtain⟨⟨_,⟨chs,e2,_⟩,e4,e5,_,⟨kvs,e7,_⟩,⟨kvo,e9,_⟩,_⟩,⟨_,⟨ts,e11,_⟩,_⟩,_⟩:=B
 rcases h with z | z | z | z | z | z
 ·exact zmu (z ▸ e2)
 ·exact zmu (z ▸ e4)
 ·obtain⟨i,e⟩:=zxu z
  exact zmu (e5 i x e)
 ·exact zzv (z ▸ e7)
 ·exact zzu (z ▸ e9)
 ·exact zmu (z ▸ e11)
structure CloR(cs:List Ch)(outs:Int->Bool)(ns:List Int)(R:Int->Bool):Prop where
 all:∀ x∈ns,R x=true
 up:∀ (k:Nat) (c:Ch),cs[k]? =some c->outs k=false->R k=true->∀ y∈c.nd,R y=true
 only:∀ x,R x=true->x∈ns\/∃ (k:Nat) (c:Ch),cs[k]? =some c/\outs k=false/\R k=true/\x∈c.nd
end L2
set_option linter.all false
namespace L2
open PySem PySem.Spec PyProof.Rows
structure Pass where
 out:List Nat
 held:List (Nat × Int)
 gone:Int->Bool
def ToldAt(H:Hp)(t ol hl:Addr)(out:List Nat)(held:List (Nat × Int)):Prop:=H t=some (.tup [.ref ol,.ref hl])/\H ol=some (.lst (out.map λ(k:Nat)=>V.int k))/\∃ hs:List Addr,H hl=some (.lst (hs.map V.ref))/\Paired (λx (p:Nat × Int)=>H x=some (.tup [.int p.1,.int p.2])) hs held
theorem ToldAt.same{H H':Hp}{t ol hl:Addr}{out:List Nat}{held:List (Nat × Int)}(h:ToldAt H t ol hl out held)(s:Same H H'):ToldAt H' t ol hl out held:=by
 obtain⟨h1,h2,hs,h3,h4⟩:=h
 exact⟨s _ _ h1,s _ _ h2,hs,s _ _ h3,Paired.mapP h4 λx p e=>s _ _ e⟩
theorem ToldAt.sb{F:Addr->Prop}{H H':Hp}{t ol hl:Addr}{out:List Nat}{held:List (Nat × Int)}(h:ToldAt H t ol hl out held)(s:SameBut F H H')(n:∀ x,F x->∀ xs,H x≠some (.tup xs))(n1:¬ F ol)(n2:¬ F hl):ToldAt H' t ol hl out held:=by
 obtain⟨h1,h2,hs,h3,h4⟩:=h
 exact⟨s _ _ h1 λz=>n _ z _ h1,s _ _ h2 n1,hs,s _ _ h3 n2,Paired.mapP h4 λx p e=>s _ _ e λz=>n _ z _ e⟩
end L2
set_option linter.all false
namespace L2
open PySem PySem.Spec PyProof.Rows
theorem zle{i j:Int}:∀ {l:List Ch} {k:Nat},zia l i j=some k->∃ c,l.reverse[k]? =some c/\(c.blk:Int)=i/\(c.cell:Int)=j
  | [],k,h=>by cases h
  | c1::r,k,h=>by
    unfold zia at h
    by_cases hp:(c1.blk:Int)=i/\(c1.cell:Int)=j
    · rw[if_pos hp]at h
      cases h
      refine⟨c1,?_,hp⟩
      rw[List.reverse_cons,List.getElem?_append_right (by rw[List.length_reverse];exact Nat.le_refl _)]
      simp
    · rw[if_neg hp]at h
      obtain⟨c,e,h2⟩:=zle h
      refine⟨c,?_,h2⟩
      have:=zkj h
      rw[List.reverse_cons,List.getElem?_append_left (by rw[List.length_reverse];exact this)]
      exact e
theorem zpe{cs:List Ch}{i j:Int}{k:Nat}(h:zbs cs i j=some k):∃ c,cs[k]? =some c/\(c.blk:Int)=i/\(c.cell:Int)=j:=by
 obtain⟨c,e,h2⟩:=zle (l:=cs.reverse) h
 rw[List.reverse_reverse]at e
 exact⟨c,e,h2⟩
end L2
set_option linter.all false
namespace L2
open PySem PySem.Spec PyProof.Rows
structure TLay(K:PySem.W.Frag)(a:Ad):Prop where
 cl:Cls K (a "Layout")
 n1:NoAttr K (a "Layout") "name_blocks"
 n2:NoAttr K (a "Layout") "record_blocks"
 n3:NoAttr K (a "Layout") "piece_blocks"
 n4:NoAttr K (a "Layout") "width"
section
variable{n r c w:Int}
def lf(n r c w:Int):List (Str × V):=[("name_blocks",.int n),("record_blocks",.int r),("piece_blocks",.int c),("width",.int w)]
theorem lf_n:(lf n r c w).lookup ("name_blocks":Str)=some (V.int n):=by simp[lf]
theorem lf_r:(lf n r c w).lookup ("record_blocks":Str)=some (V.int r):=by
 simp[lf,List.lookup_cons,s_ne (a:="record_blocks") (b:="name_blocks") (by decide +kernel)]
theorem lf_c:(lf n r c w).lookup ("piece_blocks":Str)=some (V.int c):=by
 simp[lf,List.lookup_cons,s_ne (a:="piece_blocks") (b:="name_blocks") (by decide +kernel),s_ne (a:="piece_blocks") (b:="record_blocks") (by decide +kernel)]
theorem lf_w:(lf n r c w).lookup ("width":Str)=some (V.int w):=by
 simp[lf,List.lookup_cons,s_ne (a:="width") (b:="name_blocks") (by decide +kernel),s_ne (a:="width") (b:="record_blocks") (by decide +kernel),s_ne (a:="width") (b:="piece_blocks") (by decide +kernel)]
theorem zgh{x:Str}(h:(zib x "name_blocks" || zib x "record_blocks" || zib x "piece_blocks" || zib x "width")=false):(lf n r c w).lookup x=none:=by
 simp only[Bool.or_eq_false_iff]at h
 obtain⟨⟨⟨h1,h2⟩,h3⟩,h4⟩:=h
 simp[lf,List.lookup_cons,s_ne h1,s_ne h2,s_ne h3,s_ne h4]
theorem zab4:putF "width" (.int w) (putF "piece_blocks" (.int c) (putF "record_blocks" (.int r) (putF "name_blocks" (.int n) [])))=lf n r c w:=by
 repeat (first | rw[zho] | rw[zkk (by decide +kernel)])
 rfl
end
structure LayAt(a:Ad)(H:Hp)(p:Addr)(n r c w:Nat):Prop where
 ob:∃ dx,H p=some (.ins (a "Layout") dx (lf n r c w))
 hn:n<=100
 hr:r<=100
 hc:c<=100
 h1:1<=w
 hw:w<=100
theorem LayAt.same{a:Ad}{H H':Hp}{p:Addr}{n r c w:Nat}(L:LayAt a H p n r c w)(s:Same H H'):LayAt a H' p n r c w:=by
 obtain⟨⟨dx,e⟩,z1,z2,z3,z4,z5⟩:=L
 exact⟨⟨dx,s _ _ e⟩,z1,z2,z3,z4,z5⟩
theorem LayAt.sb{a:Ad}{F:Addr->Prop}{H H':Hp}{p:Addr}{n r c w:Nat}(L:LayAt a H p n r c w)(s:SameBut F H H')(f:¬ F p):LayAt a H' p n r c w:=by
 obtain⟨⟨dx,e⟩,z1,z2,z3,z4,z5⟩:=L
 exact⟨⟨dx,s _ _ e f⟩,z1,z2,z3,z4,z5⟩
def zb5(K:PySem.W.Frag)(a:Ad):Sp:=λvs H Q _=>∃ (p dx:Addr) (n r c w:Nat),vs=[.ref p,.int n,.int r,.int c,.int w]/\TLay K a/\H p=some (.ins (a "Layout") dx [])/\n<=100/\r<=100/\c<=100/\1<=w/\w<=100 ∧
 ∀ H',LayAt a H' p n r c w->SameBut (· =p) H H'->Q .non H'
def zq6(x y:Int)(Q:VK)(H:Hp):Prop:=∀ t,H t=none->Q (.ref t) (upd H t (.tup [.int x,.int y]))
def zam(K:PySem.W.Frag)(a:Ad):Sp:=λvs H Q _=>∃ (p:Addr) (n r c w k:Nat) (b:Int),vs=[.ref p,.int b,.int k]/\TLay K a/\LayAt a H p n r c w/\zq6 (b+k / w) (k % w) Q H
def zap(K:PySem.W.Frag)(a:Ad):Sp:=λvs H Q _=>∃ (p:Addr) (n r c w k:Nat),vs=[.ref p,.int k]/\TLay K a/\LayAt a H p n r c w/\zq6 (0+k / w) (k % w) Q H
def zaz(K:PySem.W.Frag)(a:Ad):Sp:=λvs H Q _=>∃ (p:Addr) (n r c w k:Nat),vs=[.ref p,.int k]/\TLay K a/\LayAt a H p n r c w/\zq6 (n+k / w) (k % w) Q H
def zal(K:PySem.W.Frag)(a:Ad):Sp:=λvs H Q _=>∃ (p:Addr) (n r c w k:Nat),vs=[.ref p,.int k]/\TLay K a/\LayAt a H p n r c w/\zq6 (n+r+c+k / w) (k % w) Q H
def zag(K:PySem.W.Frag)(a:Ad):Sp:=λvs H Q _=>∃ (p:Addr) (n r c w:Nat),vs=[.ref p]/\TLay K a/\LayAt a H p n r c w/\Q (.int (n+r+c)) H
def zbn(K:PySem.W.Frag)(a:Ad):Sp:=λvs H Q _=>∃ (p:Addr) (n r c w:Nat),vs=[.ref p]/\TLay K a/\LayAt a H p n r c w/\Q (.int (n+r+c+r+c)) H
def za1(K:PySem.W.Frag)(a:Ad):Sp:=λvs H Q _=>∃ (p:Addr) (n r c w:Nat),vs=[.ref p]/\TLay K a/\LayAt a H p n r c w/\∀ t,H t=none->Q (.ref t) (upd H t (.tup [.int (n * w),.int (r * w),.int (c * w)]))
def zbv(K:PySem.W.Frag)(a:Ad):Sp:=λvs H Q _=>∃ (p:Addr) (n r c w:Nat),vs=[.ref p]/\TLay K a/\zey K a/\LayAt a H p n r c w ∧
 ∀ x cl H',H x=none->H cl=none->PlankAt a H' x cl w (List.replicate (n+r+c+r+c) (List.replicate w .non)) 0->Same H H'->Q (.ref x) H'
end L2
set_option linter.all false
namespace L2
open PySem PySem.Spec PyProof.Rows
abbrev bkC(a:Ad):Addr:=a "Hold"
def zmv(ns:List Int)(k:Nat):Int:=ns.getD k 0
def zbk(K:PySem.W.Frag)(a:Ad):Sp:=λvs H Q _=>∃ (s:Addr) (ns:List Int) (k:Nat),vs=[.ref s,.int k]/\SqL K H s (ns.map V.int)/\ns.length<=1000/\Q (.int (zmv ns k)) H
theorem zkl{K:PySem.W.Frag}{a:Ad}{s:Addr}{k:Int}{H:Hp}{Q:VK}{E:XK}:zbk K a [.ref s,.int k] H Q E=∃ (ns:List Int) (n:Nat),k=n/\SqL K H s (ns.map V.int)/\ns.length<=1000/\Q (.int (zmv ns n)) H:=by simp[zbk,and_assoc]
abbrev TB(K:PySem.W.Frag)(a:Ad):Prop:=zab3 K (bkC a) (a "Change")
abbrev BkAt(a:Ad)(H:Hp)(A:BA)(w:Nat)(rows:List (List V))(n:Nat)(cs:List Ch)(outs:Int->Bool):Prop:=BookAt a (bkC a) H A w rows n cs outs
def optV:Option Nat->V
 | none=>.non
 | some k=>.int k
abbrev onPl(rows:List (List V))(w:Nat)(i j:Int):Prop:=0<=i/\i<rows.length/\0<=j/\j<w
def zb6(K:PySem.W.Frag)(a:Ad):Sp:=λvs H Q _=>∃ x dx pl v nt,vs=[.ref x,.ref pl,v,.ref nt]/\TB K a/\H x=some (.ins (a "Change") dx [])/\Q .non (upd H x (.ins (a "Change") dx (chf pl v nt)))
def zch(K:PySem.W.Frag)(a:Ad):Sp:=λvs H Q _=>∃ (b gp cl dx:Addr) (w:Nat) (rows:List (List V)) (n:Nat),vs=[.ref b,.ref gp]/\TB K a/\zey K a/\PlankAt a H gp cl w rows n/\H b=some (.ins (bkC a) dx []) ∧
 ∀ (m mi lt ou:Addr) (ls:List Addr) (H':Hp),H m=none->H mi=none->H lt=none->H ou=none->(∀ l∈ls,H l=none)->BkAt a H' ⟨b,gp,m,mi,lt,ou,ls,cl⟩ w rows n [] (λ_=>false)->SameBut (· =b) H H'->Q .non H'
def zci(K:PySem.W.Frag)(a:Ad):Sp:=λvs H Q _=>∃ (nl:Addr) (ns:List Int) (o:Option Nat),vs=[.ref nl,optV o]/\SqL K H nl (ns.map V.int)/\ns.length<=60 ∧
 ∀ (t:Addr) (ks:List Int) (H':Hp),Same H H'->H' t=some (.tup (ks.map V.int))->ks.Pairwise (· <·)->(∀ x,x∈ks↔x∈ns\/∃ k:Nat,o=some k/\x=k)->ks.length<=ns.length+1->Q (.ref t) H'
def za2(K:PySem.W.Frag)(a:Ad):Sp:=λvs H Q E=>∃ (A:BA) (w:Nat) (rows:List (List V)) (n:Nat) (cs:List Ch) (outs:Int->Bool) (pl:Addr) (i j:Int),vs=[.ref A.b,.ref pl]/\TB K a/\zey K a/\BkAt a H A w rows n cs outs/\H pl=some (.tup [.int i,.int j]) ∧
 (onPl rows w i j->Q .non H)/\(¬ onPl rows w i j->E (.ref (a "NoBlock")) none H)
def zbl(K:PySem.W.Frag)(a:Ad):Sp:=λvs H Q E=>∃ (A:BA) (w:Nat) (rows:List (List V)) (n:Nat) (cs:List Ch) (outs:Int->Bool) (pl:Addr) (i j:Int),vs=[.ref A.b,.ref pl]/\TB K a/\zey K a/\BkAt a H A w rows n cs outs/\H pl=some (.tup [.int i,.int j]) ∧
 (onPl rows w i j->Q (optV (zbs cs i j)) H)/\(¬ onPl rows w i j->E (.ref (a "NoBlock")) none H)
abbrev known(cs:List Ch)(x:Int):Prop:=0<=x/\x<cs.length
def zan(K:PySem.W.Frag)(a:Ad):Sp:=λvs H Q E=>∃ (A:BA) (w:Nat) (rows:List (List V)) (n:Nat) (cs:List Ch) (outs:Int->Bool) (nl:Addr) (ns:List Int),vs=[.ref A.b,.ref nl]/\TB K a/\BkAt a H A w rows n cs outs/\SqL K H nl (ns.map V.int) ∧
 ((∀ x∈ns,known cs x)->Q .non H)/\((∃ x∈ns,¬ known cs x)->E (.ref (a "NoChange")) none H)
def za6(K:PySem.W.Frag)(a:Ad):Sp:=λvs H Q E=>∃ (A:BA) (w:Nat) (rows:List (List V)) (n:Nat) (cs:List Ch) (outs:Int->Bool) (pl nl:Addr) (v:V) (ns:List Int) (i j:Int),vs=[.ref A.b,.ref pl,v,.ref nl]/\TB K a/\zey K a/\BkAt a H A w rows n cs outs/\H pl=some (.tup [.int i,.int j])/\SqL K H nl (ns.map V.int)/\ns.length<=60/\cs.length<500 ∧
 (onPl rows w i j->(∀ x∈ns,known cs x)->∀ (nd:List Int) (H':Hp),nd.Pairwise (· <·)->(∀ x,x∈nd↔x∈ns\/∃ k:Nat,zbs cs i j=some k/\x=k)->BkAt a H' A w rows n (cs++[⟨i.toNat,j.toNat,v,nd⟩]) outs->SameBut A.F H H'->Q (.int cs.length) H') ∧
 (¬ onPl rows w i j->E (.ref (a "NoBlock")) none H)/\(onPl rows w i j->(∃ x∈ns,¬ known cs x)->E (.ref (a "NoChange")) none H)
def zda(cs:List Ch)(rows:List (List V))(i j:Int):Option V:=match zbs cs i j with
 | some k=>(cs[k]?).map (·.val)
 | none=>(rows[i.toNat]?).bind λr=>r[j.toNat]?
def zay(K:PySem.W.Frag)(a:Ad):Sp:=λvs H Q E=>∃ (A:BA) (w:Nat) (rows:List (List V)) (n:Nat) (cs:List Ch) (outs:Int->Bool) (pl:Addr) (i j:Int),vs=[.ref A.b,.ref pl]/\TB K a/\zey K a/\BkAt a H A w rows n cs outs/\H pl=some (.tup [.int i,.int j]) ∧
 (onPl rows w i j->∀ (v:V) (H':Hp),zda cs rows i j=some v->Same H H'->Q v H')/\(¬ onPl rows w i j->E (.ref (a "NoBlock")) none H)
def zbd(K:PySem.W.Frag)(a:Ad):Sp:=λvs H Q E=>∃ (A:BA) (w:Nat) (rows:List (List V)) (n:Nat) (cs:List Ch) (outs:Int->Bool) (x:Int),vs=[.ref A.b,.int x]/\TB K a/\BkAt a H A w rows n cs outs ∧
 (∀ (k:Nat) (c:Ch) (l:Addr) (H':Hp),x=k->cs[k]? =some c->H l=none->Same H H'->H' l=some (.lst (c.nd.map V.int))->Q (.ref l) H')/\(¬ known cs x->∀ H',Same H H'->E (.ref (a "NoChange")) none H')
def GoodV:Nat->Hp->V->Prop
 | 0,_,_=>False
 | _+1,_,.int _=>True
 | _+1,_,.non=>True
 | _+1,_,.str z=>PyData.strOk z=true
 | n+1,H,.ref p=>∃ xs,H p=some (.tup xs)/\xs.length<=100/\∀ v∈xs,GoodV n H v
 | _,_,_=>False
def zxe(v:V):Prop:=v=.non\/∃ i,v=.int i
def kBlk(n r c w kind k:Nat):Nat:=(if kind=0 then 0 else if kind=1 then n+r+c else if kind=2 then n+r+c+r else if kind=3 then n else n+r)+k / w
def ze8(n r c w kind:Nat):Nat:=(if kind=0 then n else if kind=1 then r else if kind=2 then c else if kind=3 then r else c) * w
def zsc(kind:Nat)(v:V):Bool:=decide (v=.non) || (decide (0<kind) && decide (v=.int 0))
def lowF(f:Nat->Bool)(m:Nat):Int:=match (List.range m).find? f with
 | some k=>k
 | none=> -1
def zab5(H:Hp)(rows:List (List V)):Prop:=∀ r∈rows,∀ v∈r,GoodV 4 H v
def goodH(H:Hp)(cs:List Ch)(rows:List (List V)):Prop:=zab5 H rows/\∀ c∈cs,GoodV 4 H c.val
def zmw(cs:List Ch)(rows:List (List V))(n r c w kind:Nat)(k:Nat):Bool:=match zda cs rows (kBlk n r c w kind k:Nat) (k % w:Nat)with
 | some v=>zsc kind v
 | none=>false
def zbe(K:PySem.W.Frag)(a:Ad):Sp:=λvs H Q E=>∃ (A:BA) (w:Nat) (rows:List (List V)) (n:Nat) (cs:List Ch) (outs:Int->Bool) (pl vl:Addr) (ts:List Addr) (xs:List V) (f:Nat->Bool) (m:Nat),vs=[.ref A.b,.ref pl,.ref vl]/\TB K a/\zey K a/\BkAt a H A w rows n cs outs/\H pl=some (.lst (ts.map V.ref))/\ts.length=m/\m<=1000/\H vl=some (.tup xs)/\(∀ z∈xs,zxe z) ∧
 (∀ k t,ts[k]? =some t->∃ i j v,H t=some (.tup [.int i,.int j])/\onPl rows w i j/\zda cs rows i j=some v/\GoodV 4 H v/\f k=decide (v∈xs)) ∧
 (∀ k:Nat,lowF f m=k->∀ H',Same H H'->Q (.int k) H')/\(lowF f m= -1->∀ H',Same H H'->E (.ref (a "NoRoom")) none H')
def zvp(kind:Nat)(K:PySem.W.Frag)(a:Ad)(p b:Addr)(H:Hp)(Q:VK)(E:XK):Prop:=∃ (A:BA) (n r c w:Nat) (rows:List (List V)) (nn:Nat) (cs:List Ch) (outs:Int->Bool),b=A.b/\TB K a/\zey K a/\TLay K a/\LayAt a H p n r c w/\n<=6/\r<=6/\c<=6/\w<=6/\BkAt a H A w rows nn cs outs/\rows.length=n+r+c+r+c/\(∀ i j v,zda cs rows i j=some v->GoodV 4 H v) ∧
 (∀ k:Nat,lowF (zmw cs rows n r c w kind) (ze8 n r c w kind)=k->∀ H',Same H H'->Q (.int k) H')/\(lowF (zmw cs rows n r c w kind) (ze8 n r c w kind)= -1->∀ H',Same H H'->E (.ref (a "NoRoom")) none H')
def zcv(K:PySem.W.Frag)(a:Ad):Sp:=λvs H Q E=>∃ p b,vs=[.ref p,.ref b]/\zvp 0 K a p b H Q E
def zb7(K:PySem.W.Frag)(a:Ad):Sp:=λvs H Q E=>∃ p b,vs=[.ref p,.ref b]/\zvp 1 K a p b H Q E
def zhp(c:Nat):Bool:=decide (97<=c) && decide (c<=122)
def zd2(z:Str):Bool:=decide (1<=z.length) && decide (z.length<=8) && z.cps.toList.all zhp
def zd3(K:PySem.W.Frag)(a:Ad):Sp:=λvs H Q _=>∃ z:Str,vs=[.str z]/\z.length<=1000/\∀ H',Same H H'->Q (.bl (zd2 z)) H'
structure zvq(K:PySem.W.Frag)(a:Ad):Prop where
 cl:Cls K (a "Store")
 n1:NoAttr K (a "Store") "plan"
 n2:NoAttr K (a "Store") "book"
 n3:NoAttr K (a "Store") "taken_out"
def sf(lp b tk:Addr):List (Str × V):=[("plan",.ref lp),("book",.ref b),("taken_out",.ref tk)]
structure SA where
 A:BA
 st:Addr
 lp:Addr
 tk:Addr
def NmV(H:Hp)(v:V):Option (Str × Nat)->Prop
 | none=>v=.non
 | some (z,k)=>∃ t,v=.ref t/\H t=some (.tup [.str z,.int k])
structure StAt(a:Ad)(H:Hp)(S:SA)(n r c w:Nat)(rows:List (List V))(nn:Nat)(cs:List Ch)(outs:Int->Bool)(tks:List (Key × V))(nm:Nat->Option (Str × Nat)):Prop where
 ob:∃ dx,H S.st=some (.ins (a "Store") dx (sf S.lp S.A.b S.tk))
 ly:LayAt a H S.lp n r c w
 bk:BkAt a H S.A w rows nn cs outs
 tk:H S.tk=some (.dK tks)
 tv:∀ z v,valV tks (.inr z)=some v->∃ k:Nat,v=.int k/\k<cs.length
 ap:¬ S.A.F S.tk
 sz:n<=6/\r<=6/\c<=6/\w<=6/\rows.length=n+r+c+r+c
 gd:goodH H cs rows
 nms:∀ k v,k<n * w->zda cs rows (k / w:Nat) (k % w:Nat)=some v->NmV H v (nm k)
def zh6(nm:Nat->Option (Str × Nat))(m:Nat):List Str:=(List.range m).filterMap λk=>(nm k).map (·.1)
def cellOf(nm:Nat->Option (Str × Nat))(m:Nat)(z:Str):Option Nat:=(List.range m).find? λk=>(nm k).any λp=>decide (p.1=z)
def zq7(nm:Nat->Option (Str × Nat))(c:Nat)(x:Option (Str × Nat)):Nat->Option (Str × Nat):=λk=>if k=c then x else nm k
abbrev TS4(K:PySem.W.Frag)(a:Ad):Prop:=TB K a/\zey K a/\TLay K a/\zvq K a
abbrev NdOk(nd:List Int)(f:Int->Prop):Prop:=nd.Pairwise (· <·)/\∀ x,x∈nd↔f x
abbrev zt2(cs:List Ch)(i j:Int)(x:Int):Prop:=∃ k:Nat,zbs cs i j=some k/\x=k
def zcj(K:PySem.W.Frag)(a:Ad):Sp:=λvs H Q _=>∃ (x dx lp gp cl:Addr) (n r c w:Nat) (rows:List (List V)) (nn:Nat) (nm:Nat->Option (Str × Nat)),vs=[.ref x,.ref lp,.ref gp]/\TS4 K a/\H x=some (.ins (a "Store") dx [])/\LayAt a H lp n r c w/\PlankAt a H gp cl w rows nn/\(n<=6/\r<=6/\c<=6/\w<=6/\rows.length=n+r+c+r+c)/\zab5 H rows/\(∀ k v,k<n * w->zda [] rows (k / w:Nat) (k % w:Nat)=some v->NmV H v (nm k)) ∧
 ∀ (S:SA) (H':Hp),S.st=x->S.lp=lp->S.A.gp=gp->S.A.cl=cl->(∀ y o,H y=some o->y=cl\/¬ S.A.F y)->H S.tk=none->StAt a H' S n r c w rows nn [] (λ_=>false) [] nm->SameBut (· =x) H H'->Q .non H'
def zck(K:PySem.W.Frag)(a:Ad):Sp:=λvs H Q _=>∃ (x dx lp b tk:Addr),vs=[.ref x]/\zvq K a/\H x=some (.ins (a "Store") dx (sf lp b tk))/\Q (.ref b) H
def za0(K:PySem.W.Frag)(a:Ad):Sp:=λvs H Q _=>∃ (S:SA) (n r c w:Nat) (rows:List (List V)) (nn:Nat) (cs:List Ch) (outs:Int->Bool) (tks:List (Key × V)) (nm:Nat->Option (Str × Nat)),vs=[.ref S.st]/\TS4 K a/\StAt a H S n r c w rows nn cs outs tks nm ∧
 ∀ (l:Addr) (xs:List V) (H':Hp),Same H H'->H' l=some (.lst xs)->xs.length=n * w->(∀ k v,xs[k]? =some v->NmV H' v (nm k))->(∀ k v,xs[k]? =some v->zda cs rows (k / w:Nat) (k % w:Nat)=some v)->Q (.ref l) H'
def zb8(K:PySem.W.Frag)(a:Ad):Sp:=λvs H Q _=>∃ (S:SA) (n r c w:Nat) (rows:List (List V)) (nn:Nat) (cs:List Ch) (outs:Int->Bool) (tks:List (Key × V)) (nm:Nat->Option (Str × Nat)),vs=[.ref S.st]/\TS4 K a/\StAt a H S n r c w rows nn cs outs tks nm ∧
 ∀ (l:Addr) (ks:List Str) (H':Hp),H l=none->Same H H'->H' l=some (.lst (ks.map V.str))->ks.Perm (zh6 nm (n * w))->sortedS ks=true->Q (.ref l) H'
def zbo(K:PySem.W.Frag)(a:Ad):Sp:=λvs H Q _=>∃ (S:SA) (n r c w:Nat) (rows:List (List V)) (nn:Nat) (cs:List Ch) (outs:Int->Bool) (tks:List (Key × V)) (nm:Nat->Option (Str × Nat)) (z:Str),vs=[.ref S.st,.str z]/\TS4 K a/\StAt a H S n r c w rows nn cs outs tks nm ∧
 ∀ (H':Hp),Same H H'->Q (optV (cellOf nm (n * w) z)) H'
def zar(K:PySem.W.Frag)(a:Ad):Sp:=λvs H Q E=>∃ (S:SA) (n r c w:Nat) (rows:List (List V)) (nn:Nat) (cs:List Ch) (outs:Int->Bool) (tks:List (Key × V)) (nm:Nat->Option (Str × Nat)) (z:Str) (gl:Addr) (zs:List Str),vs=[.ref S.st,.str z,.ref gl]/\TS4 K a/\StAt a H S n r c w rows nn cs outs tks nm/\H gl=some (.lst (zs.map V.str))/\zs.length<=60/\(∀ y∈zs,y.length<=1000) ∧
 (zs.all zd2=true->cellOf nm (n * w) z=none->∀ H',Same H H'->Q .non H')/\(zs.all zd2=false->∀ H',Same H H'->E (.ref (a "NoName")) none H')/\(zs.all zd2=true->(∃ k,cellOf nm (n * w) z=some k)->∀ H',Same H H'->E (.ref (a "Twice")) none H')
def zba(K:PySem.W.Frag)(a:Ad):Sp:=λvs H Q _=>∃ (S:SA) (n r c w:Nat) (rows:List (List V)) (nn:Nat) (cs:List Ch) (outs:Int->Bool) (tks:List (Key × V)) (nm:Nat->Option (Str × Nat)) (cell rec need:Nat) (z:Str),vs=[.ref S.st,.int cell,.str z,.int rec,.int need]/\TS4 K a/\StAt a H S n r c w rows nn cs outs tks nm/\cell<n * w/\need<cs.length/\cs.length<500/\PyData.strOk z=true ∧
 ∀ (t:Addr) (nd:List Int) (H':Hp),NdOk nd (λx=>x=need\/(∃ k:Nat,valV tks (.inr z)=some (.int k)/\x=k)\/zt2 cs (cell / w:Nat) (cell % w:Nat) x)->StAt a H' S n r c w rows nn (cs++[⟨cell / w,cell % w,.ref t,nd⟩]) outs tks (zq7 nm cell (some (z,rec)))->H' t=some (.tup [.str z,.int rec])->SameBut S.A.F H H'->Q (.int cs.length) H'
structure Made(H:Hp)(n r c w:Nat)(cs:List Ch)(tks:List (Key × V))(rec cell:Nat)(z:Str)(c1 c2 c3:Ch):Prop where
 p1:c1.blk=n+r+c+rec / w/\c1.cell=rec % w/\c1.val=.int 1
 p2:c2.blk=n+rec / w/\c2.cell=rec % w/\∃ t e,c2.val=.ref t/\H t=some (.tup [.int 1,.ref e])/\H e=some (.tup [])
 p3:c3.blk=cell / w/\c3.cell=cell % w/\∃ t,c3.val=.ref t/\H t=some (.tup [.str z,.int rec])
 d1:NdOk c1.nd λx=>zt2 cs (n+r+c+rec / w:Nat) (rec % w:Nat) x
 d2:NdOk c2.nd λx=>x=cs.length\/zt2 (cs++[c1]) (n+rec / w:Nat) (rec % w:Nat) x
 d3:NdOk c3.nd λx=>x=(cs.length:Nat)+1\/(∃ k:Nat,valV tks (.inr z)=some (.int k)/\x=k)\/zt2 (cs++[c1]++[c2]) (cell / w:Nat) (cell % w:Nat) x
def lowR(cs:List Ch)(rows:List (List V))(n r c w kind:Nat):Int:=lowF (zmw cs rows n r c w kind) (ze8 n r c w kind)
def zbt(K:PySem.W.Frag)(a:Ad):Sp:=λvs H Q E=>∃ (S:SA) (n r c w:Nat) (rows:List (List V)) (nn:Nat) (cs:List Ch) (outs:Int->Bool) (tks:List (Key × V)) (nm:Nat->Option (Str × Nat)) (z:Str),vs=[.ref S.st,.str z]/\TS4 K a/\StAt a H S n r c w rows nn cs outs tks nm/\z.length<=1000/\cs.length<490 ∧
 (zd2 z=true->cellOf nm (n * w) z=none->∀ rec cell:Nat,lowR cs rows n r c w 1=rec->lowR cs rows n r c w 0=cell->∀ (l:Addr) (c1 c2 c3:Ch) (H':Hp),H l=none->Made H' n r c w cs tks rec cell z c1 c2 c3->H' l=some (.lst [.int cs.length,.int (cs.length+1:Nat),.int (cs.length+2:Nat)])->StAt a H' S n r c w rows nn (cs++[c1]++[c2]++[c3]) outs tks (zq7 nm cell (some (z,rec)))->SameBut S.A.F H H'->Q (.ref l) H') ∧
 (zd2 z=false->∀ H',Same H H'->E (.ref (a "NoName")) none H')/\(zd2 z=true->(∃ k,cellOf nm (n * w) z=some k)->∀ H',Same H H'->E (.ref (a "Twice")) none H') ∧
 (zd2 z=true->cellOf nm (n * w) z=none->(lowR cs rows n r c w 1= -1\/lowR cs rows n r c w 0= -1)->∀ H',Same H H'->E (.ref (a "NoRoom")) none H')
structure TR(K:PySem.W.Frag)(a:Ad):Prop where
 hit:PySem.W.exmOne K (.ref (a "NoRoom")) (.ref (a "NoRoom"))=some true
 ec:ExcC K (a "NoRoom")
 ih:PySem.W.kitOne K (.ref (a "NoRoom")) (.ref (a "HoldError"))=some true
 iv:PySem.W.kitOne K (.ref (a "NoRoom")) (.type "ValueError")=some true
def isNm(z:Str)(k:Nat):Prop:=zd2 z=true/\PyData.strOk z=true/\∃ pre,z.cps.toList=pre++[97+k / 26 % 26,97+k % 26]
def zdf(K:PySem.W.Frag)(a:Ad):Sp:=λvs H Q _=>∃ (k:Nat) (x:Int),vs=[.int k,.int x]/\∀ z H',isNm z k->Same H H'->Q (.str z) H'
def nm41(zs:List Str):Nat->Option (Str × Nat):=λk=>(zs[k]?).map λz=>(z,k)
def plc(n r w:Nat)(i j k:Nat):Prop:=j=k % w/\(i=n+r+1+k / w\/i=n+k / w\/i=k / w)
structure L41(a:Ad)(H:Hp)(S:SA)(n r w:Nat)(rows:List (List V))(nn:Nat)(cs:List Ch)(zs:List Str):Prop where
 st:StAt a H S n r 1 w rows nn cs (λ_=>false) [] (nm41 zs)
 ln:cs.length=3 * zs.length
 mks:∀ k,k<r * w->zda cs rows (n+r+1+k / w:Nat) (k % w:Nat)=some (if k<zs.length then .int 1 else .non)
 fr:∀ c∈cs,∃ k,k<zs.length/\plc n r w c.blk c.cell k
 hn:zs.length<=n * w
 hr:zs.length<=r * w
 nz:∀ k z,zs[k]? =some z->isNm z k
 p1:1<=n/\1<=r
def zdg(K:PySem.W.Frag)(a:Ad):Sp:=λvs H Q _=>∃ (S:SA) (n r w:Nat) (rows:List (List V)) (nn:Nat) (cs:List Ch) (zs:List Str) (z:Str),vs=[.ref S.lp,.ref S.st,.str z,.int zs.length]/\TS4 K a/\L41 a H S n r w rows nn cs zs/\isNm z zs.length/\zs.length<n * w/\zs.length<r * w ∧
 ∀ cs' H',L41 a H' S n r w rows nn cs' (zs++[z])->SameBut S.A.F H H'->Q (.bl true) H'
def zb9(K:PySem.W.Frag)(a:Ad):Sp:=λvs H Q _=>∃ (S:SA) (n r w:Nat) (rows:List (List V)) (nn:Nat) (cs:List Ch) (zs:List Str) (z:Str),vs=[.ref S.st,.str z]/\TS4 K a/\TR K a/\L41 a H S n r w rows nn cs zs/\isNm z zs.length/\(zs.length=n * w\/zs.length=r * w)/\∀ H',Same H H'->Q (.bl true) H'
def zou(K:PySem.W.Frag)(a:Ad):Sp:=λvs H Q _=>∃ (s:Addr) (ns:List Int),vs=[.ref s]/\TS4 K a/\TR K a/\SqL K H s (ns.map V.int)/\ns.length<=63/\∀ H',Q (.bl true) H'
end L2
set_option linter.all false
namespace L2
open PySem PySem.Spec PyProof.Rows
abbrev FK:=PySem.W.Frag
abbrev XE:=St->XK
theorem ap3{f g:TS}(h:f=g)(D:Ends)(σ:St)(H:Hp):f D σ H=g D σ H:=by rw[h]
section
variable{K:FK}{a:Ad}{n:Nat}{E E1:XE}{D:Ends}{σ:St}{H:Hp}
def rd_Change_init_1(K:FK)(a:Ad)(E E1:XE):TS:=(sFld K (tVr 0) (tVr 1) "place")
theorem zic:type_of% (ap3 (rd_Change_init_1.eq_1 K a E E1) D σ H):=rfl
def rd_Change_init_2(K:FK)(a:Ad)(E E1:XE):TS:=(sFld K (tVr 0) (tVr 2) "value")
theorem zid:type_of% (ap3 (rd_Change_init_2.eq_1 K a E E1) D σ H):=rfl
def rd_Change_init_3(K:FK)(a:Ad)(E E1:XE):TS:=(sFld K (tVr 0) (tVr 3) "needs")
theorem zie:type_of% (ap3 (rd_Change_init_3.eq_1 K a E E1) D σ H):=rfl
def zen(K:FK)(a:Ad)(E:XE):TS:=(tSeq (rd_Change_init_1 K a E E) (tSeq (rd_Change_init_2 K a E E) (rd_Change_init_3 K a E E)))
def rd_Book_ask_for_changes_1(K:FK)(a:Ad)(E E1:XE):TS:=(zk7 (a "NoChange") E (zaf (tC (.str "there is no change of such a number")) tNil))
theorem zdb:type_of% (ap3 (rd_Book_ask_for_changes_1.eq_1 K a E E1) D σ H):=rfl
def rd_Book_ask_for_changes_2(K:FK)(a:Ad)(E E1:XE):TS:=(tIfS (tNot (zfe (zji rLeA rLtA (tC (.int 0)) (tVr 2) (tCB (zbz K) (zaf (tFld K (tVr 0) "made") tNil))))) (rd_Book_ask_for_changes_1 K a E E) zf2)
theorem zdc:type_of% (ap3 (rd_Book_ask_for_changes_2.eq_1 K a E E1) D σ H):=rfl
def rd_Book_ask_for_changes_3(K:FK)(a:Ad)(E E1:XE):TS:=(tFor (iSeq K (tVr 1)) (zbw 2) (rd_Book_ask_for_changes_2 K a E E))
theorem zdd:type_of% (ap3 (rd_Book_ask_for_changes_3.eq_1 K a E E1) D σ H):=rfl
def zb2(K:FK)(a:Ad)(E:XE):TS:=(rd_Book_ask_for_changes_3 K a E E)
def rd_needs_with_1(K:FK)(a:Ad)(E E1:XE):TS:=(tRet (tCB (zd7 K) (zaf (zmg K (tVr 0)) tNil)))
theorem zfo:type_of% (ap3 (rd_needs_with_1.eq_1 K a E E1) D σ H):=rfl
def rd_needs_with_2(K:FK)(a:Ad)(E E1:XE):TS:=(tIfS (zfe (tOp rIsN (tVr 1) (tC .non))) (rd_needs_with_1 K a E E) zf2)
theorem zfp:type_of% (ap3 (rd_needs_with_2.eq_1 K a E E1) D σ H):=rfl
def rd_needs_with_3(K:FK)(a:Ad)(E E1:XE):TS:=(tRet (tCB (zd7 K) (zaf (zmg K (tOp (ze4 K) (tCB (zd1 K) (zaf (tVr 0) tNil)) (tLst (zaf (tVr 1) tNil)))) tNil)))
theorem zfq:type_of% (ap3 (rd_needs_with_3.eq_1 K a E E1) D σ H):=rfl
def zd9(K:FK)(a:Ad)(E:XE):TS:=(tSeq (rd_needs_with_2 K a E E) (rd_needs_with_3 K a E E))
def rd_is_name_1(K:FK)(a:Ad)(E E1:XE):TS:=(tRet (zv1 (zji rLeA rLeA (tC (.int 1)) (tCB (zbz K) (zaf (tVr 0) tNil)) (tC (.int 8))) (tCB (zge K) (zaf (zjm (iStr (tVr 0)) (zbw 0) zg3 (zji rLeA rLeA (tC (.str "a")) (tVr 0) (tC (.str "z"))) 1 []) tNil))))
theorem zmx:type_of% (ap3 (rd_is_name_1.eq_1 K a E E1) D σ H):=rfl
def zhq(K:FK)(a:Ad)(E:XE):TS:=(rd_is_name_1 K a E E)
def rd_Store_hold_1(K:FK)(a:Ad)(E E1:XE):TS:=(tRet (tFld K (tVr 0) "book"))
theorem zjt:type_of% (ap3 (rd_Store_hold_1.eq_1 K a E E1) D σ H):=rfl
def ze9(K:FK)(a:Ad)(E:XE):TS:=(rd_Store_hold_1 K a E E)
def rd_Plank_init_1(K:FK)(a:Ad)(E E1:XE):TS:=(sFld K (tVr 0) (zjm (zoy (zaf (tVr 1) tNil)) (zbw 0) zg3 (tOp (zgt K) (tTup (zaf (tC .non) tNil)) (tVr 1)) 1 [2]) "contents")
theorem zju:type_of% (ap3 (rd_Plank_init_1.eq_1 K a E E1) D σ H):=rfl
def rd_Plank_init_2(K:FK)(a:Ad)(E E1:XE):TS:=(sFld K (tVr 0) (tVr 2) "width")
theorem zjv:type_of% (ap3 (rd_Plank_init_2.eq_1 K a E E1) D σ H):=rfl
def rd_Plank_init_3(K:FK)(a:Ad)(E E1:XE):TS:=(sFld K (tVr 0) (tC (.int 0)) "written")
theorem zjw:type_of% (ap3 (rd_Plank_init_3.eq_1 K a E E1) D σ H):=rfl
def zfa(K:FK)(a:Ad)(E:XE):TS:=(tSeq (rd_Plank_init_1 K a E E) (tSeq (rd_Plank_init_2 K a E E) (rd_Plank_init_3 K a E E)))
def rd_Plank_blocks_1(K:FK)(a:Ad)(E E1:XE):TS:=(tRet (tCB (zbz K) (zaf (tFld K (tVr 0) "contents") tNil)))
theorem zhs:type_of% (ap3 (rd_Plank_blocks_1.eq_1 K a E E1) D σ H):=rfl
def zea(K:FK)(a:Ad)(E:XE):TS:=(rd_Plank_blocks_1 K a E E)
def rd_Plank_cells_1(K:FK)(a:Ad)(E E1:XE):TS:=(tRet (tFld K (tVr 0) "width"))
theorem zif:type_of% (ap3 (rd_Plank_cells_1.eq_1 K a E E1) D σ H):=rfl
def zeo(K:FK)(a:Ad)(E:XE):TS:=(rd_Plank_cells_1 K a E E)
def rd_Plank_ask_for_block_1(K:FK)(a:Ad)(E E1:XE):TS:=(zk7 (a "NoBlock") E (zaf (tC (.str "there is no such block")) tNil))
theorem zfh:type_of% (ap3 (rd_Plank_ask_for_block_1.eq_1 K a E E1) D σ H):=rfl
def rd_Plank_ask_for_block_2(K:FK)(a:Ad)(E E1:XE):TS:=(tIfS (tNot (zfe (zji rLeA rLtA (tC (.int 0)) (tVr 1) (tCB (zbz K) (zaf (tFld K (tVr 0) "contents") tNil))))) (rd_Plank_ask_for_block_1 K a E E) zf2)
theorem zfi:type_of% (ap3 (rd_Plank_ask_for_block_2.eq_1 K a E E1) D σ H):=rfl
def zcd(K:FK)(a:Ad)(E:XE):TS:=(rd_Plank_ask_for_block_2 K a E E)
def rd_Layout_init_1(K:FK)(a:Ad)(E E1:XE):TS:=(sFld K (tVr 0) (tVr 1) "name_blocks")
theorem zig:type_of% (ap3 (rd_Layout_init_1.eq_1 K a E E1) D σ H):=rfl
def rd_Layout_init_2(K:FK)(a:Ad)(E E1:XE):TS:=(sFld K (tVr 0) (tVr 2) "record_blocks")
theorem zih:type_of% (ap3 (rd_Layout_init_2.eq_1 K a E E1) D σ H):=rfl
def rd_Layout_init_3(K:FK)(a:Ad)(E E1:XE):TS:=(sFld K (tVr 0) (tVr 3) "piece_blocks")
theorem zii:type_of% (ap3 (rd_Layout_init_3.eq_1 K a E E1) D σ H):=rfl
def rd_Layout_init_4(K:FK)(a:Ad)(E E1:XE):TS:=(sFld K (tVr 0) (tVr 4) "width")
theorem zij:type_of% (ap3 (rd_Layout_init_4.eq_1 K a E E1) D σ H):=rfl
def zep(K:FK)(a:Ad)(E:XE):TS:=(tSeq (rd_Layout_init_1 K a E E) (tSeq (rd_Layout_init_2 K a E E) (tSeq (rd_Layout_init_3 K a E E) (rd_Layout_init_4 K a E E))))
def rd_Layout_counts_1(K:FK)(a:Ad)(E E1:XE):TS:=(tRet (tTup (zaf (tOp (zgt K) (tFld K (tVr 0) "name_blocks") (tFld K (tVr 0) "width")) (zaf (tOp (zgt K) (tFld K (tVr 0) "record_blocks") (tFld K (tVr 0) "width")) (zaf (tOp (zgt K) (tFld K (tVr 0) "piece_blocks") (tFld K (tVr 0) "width")) tNil)))))
theorem zg6:type_of% (ap3 (rd_Layout_counts_1.eq_1 K a E E1) D σ H):=rfl
def zdx(K:FK)(a:Ad)(E:XE):TS:=(rd_Layout_counts_1 K a E E)
def rd_Layout_blocks_ahead_of_marks_1(K:FK)(a:Ad)(E E1:XE):TS:=(tRet (tOp (ze4 K) (tOp (ze4 K) (tFld K (tVr 0) "name_blocks") (tFld K (tVr 0) "record_blocks")) (tFld K (tVr 0) "piece_blocks")))
theorem zdv:type_of% (ap3 (rd_Layout_blocks_ahead_of_marks_1.eq_1 K a E E1) D σ H):=rfl
def za7(K:FK)(a:Ad)(E:XE):TS:=(rd_Layout_blocks_ahead_of_marks_1 K a E E)
def rd_Layout_place_from_1(K:FK)(a:Ad)(E E1:XE):TS:=(tRet (tTup (zaf (tOp (ze4 K) (tVr 1) (tOp zqk (tVr 2) (tFld K (tVr 0) "width"))) (zaf (tOp zli (tVr 2) (tFld K (tVr 0) "width")) tNil))))
theorem zfx:type_of% (ap3 (rd_Layout_place_from_1.eq_1 K a E E1) D σ H):=rfl
def zcs(K:FK)(a:Ad)(E:XE):TS:=(rd_Layout_place_from_1 K a E E)
def rd_law_cell_at_1(K:FK)(a:Ad)(E E1:XE):TS:=(tRet (tOp (rIxA K) (tVr 0) (tVr 1)))
theorem zik:type_of% (ap3 (rd_law_cell_at_1.eq_1 K a E E1) D σ H):=rfl
def rd_law_cell_at_2(K:FK)(a:Ad)(E E1:XE):TS:=(tIfS (zfe (tOp rLtA (tVr 1) (tCB (zbz K) (zaf (tVr 0) tNil)))) (rd_law_cell_at_1 K a E E) zf2)
theorem zil:type_of% (ap3 (rd_law_cell_at_2.eq_1 K a E E1) D σ H):=rfl
def rd_law_cell_at_3(K:FK)(a:Ad)(E E1:XE):TS:=(tRet (tC (.int 0)))
theorem zim:type_of% (ap3 (rd_law_cell_at_3.eq_1 K a E E1) D σ H):=rfl
def zeq(K:FK)(a:Ad)(E:XE):TS:=(tSeq (rd_law_cell_at_2 K a E E) (rd_law_cell_at_3 K a E E))
def rd_law_name_1(K:FK)(a:Ad)(E E1:XE):TS:=(tAsg (tC (.str "abcdefghijklmnopqrstuvwxyz")) (zbw 2))
theorem zlk:type_of% (ap3 (rd_law_name_1.eq_1 K a E E1) D σ H):=rfl
def rd_law_name_2(K:FK)(a:Ad)(E E1:XE):TS:=(tAsg (tC (.str "")) (zbw 3))
theorem zll:type_of% (ap3 (rd_law_name_2.eq_1 K a E E1) D σ H):=rfl
def rd_law_name_3(K:FK)(a:Ad)(E E1:XE):TS:=(tAsg (tOp (ze4 K) (tVr 3) (tOp (rIxA K) (tVr 2) (tOp zli (tOp zqk (tVr 1) (tOp (rIxA K) (tLst (zaf (tC (.int 6)) (zaf (tC (.int 156)) (zaf (tC (.int 4056)) (zaf (tC (.int 105456)) (zaf (tC (.int 2741856)) tNil)))))) (tVr 4))) (tC (.int 26))))) (zbw 3))
theorem zlm:type_of% (ap3 (rd_law_name_3.eq_1 K a E E1) D σ H):=rfl
def rd_law_name_4(K:FK)(a:Ad)(E E1:XE):TS:=(tFor (zoy (zaf (tOp zli (tVr 1) (tC (.int 6))) tNil)) (zbw 4) (rd_law_name_3 K a E E))
theorem zln:type_of% (ap3 (rd_law_name_4.eq_1 K a E E1) D σ H):=rfl
def rd_law_name_5(K:FK)(a:Ad)(E E1:XE):TS:=(tRet (tOp (ze4 K) (tOp (ze4 K) (tVr 3) (tOp (rIxA K) (tVr 2) (tOp zli (tOp zqk (tVr 0) (tC (.int 26))) (tC (.int 26))))) (tOp (rIxA K) (tVr 2) (tOp zli (tVr 0) (tC (.int 26))))))
theorem zlo:type_of% (ap3 (rd_law_name_5.eq_1 K a E E1) D σ H):=rfl
def zgi(K:FK)(a:Ad)(E:XE):TS:=(tSeq (rd_law_name_1 K a E E) (tSeq (rd_law_name_2 K a E E) (tSeq (rd_law_name_4 K a E E) (rd_law_name_5 K a E E))))
def rd_Book_init_1(K:FK)(a:Ad)(E E1:XE):TS:=(sFld K (tVr 0) (tVr 1) "ground")
theorem zkm:type_of% (ap3 (rd_Book_init_1.eq_1 K a E E1) D σ H):=rfl
def rd_Book_init_2(K:FK)(a:Ad)(E E1:XE):TS:=(sFld K (tVr 0) (tLst tNil) "made")
theorem zkn:type_of% (ap3 (rd_Book_init_2.eq_1 K a E E1) D σ H):=rfl
def rd_Book_init_3(K:FK)(a:Ad)(E E1:XE):TS:=(sFld K (tVr 0) (zjm (zoy (zaf (zbq (a "Plank") "blocks" (zbc K a) [] E (tVr 1) tNil) tNil)) (zbw 0) zg3 (tLst tNil) 1 []) "made_in")
theorem zko:type_of% (ap3 (rd_Book_init_3.eq_1 K a E E1) D σ H):=rfl
def rd_Book_init_4(K:FK)(a:Ad)(E E1:XE):TS:=(sFld K (tVr 0) zus "latest")
theorem zkp:type_of% (ap3 (rd_Book_init_4.eq_1 K a E E1) D σ H):=rfl
def rd_Book_init_5(K:FK)(a:Ad)(E E1:XE):TS:=(sFld K (tVr 0) zsu "outs")
theorem zkq:type_of% (ap3 (rd_Book_init_5.eq_1 K a E E1) D σ H):=rfl
def zfr(K:FK)(a:Ad)(E:XE):TS:=(tSeq (rd_Book_init_1 K a E E) (tSeq (rd_Book_init_2 K a E E) (tSeq (rd_Book_init_3 K a E E) (tSeq (rd_Book_init_4 K a E E) (rd_Book_init_5 K a E E)))))
def rd_Book_needed_1(K:FK)(a:Ad)(E E1:XE):TS:=(zlf (zbq (a "Hold") "ask_for_changes" (zan K a) [] E (tVr 0) (zaf (tLst (zaf (tVr 1) tNil)) tNil)))
theorem zin:type_of% (ap3 (rd_Book_needed_1.eq_1 K a E E1) D σ H):=rfl
def rd_Book_needed_2(K:FK)(a:Ad)(E E1:XE):TS:=(tRet (tCB (zd1 K) (zaf (tFld K (tOp (rIxA K) (tFld K (tVr 0) "made") (tVr 1)) "needs") tNil)))
theorem zio:type_of% (ap3 (rd_Book_needed_2.eq_1 K a E E1) D σ H):=rfl
def zer(K:FK)(a:Ad)(E:XE):TS:=(tSeq (rd_Book_needed_1 K a E E) (rd_Book_needed_2 K a E E))
def rd_Book_ask_for_place_1(K:FK)(a:Ad)(E E1:XE):TS:=(zk7 (a "NoBlock") E (zaf (tC (.str "there is no such place on the plank")) tNil))
theorem zfk:type_of% (ap3 (rd_Book_ask_for_place_1.eq_1 K a E E1) D σ H):=rfl
def rd_Book_ask_for_place_2(K:FK)(a:Ad)(E E1:XE):TS:=(tIfS (tOr (tNot (zfe (zji rLeA rLtA (tC (.int 0)) (tOp (rIxA K) (tVr 1) (tC (.int 0))) (zbq (a "Plank") "blocks" (zbc K a) [] E (tFld K (tVr 0) "ground") tNil)))) (tNot (zfe (zji rLeA rLtA (tC (.int 0)) (tOp (rIxA K) (tVr 1) (tC (.int 1))) (zbq (a "Plank") "cells" (zb4 K a) [] E (tFld K (tVr 0) "ground") tNil))))) (rd_Book_ask_for_place_1 K a E E) zf2)
theorem zfl:type_of% (ap3 (rd_Book_ask_for_place_2.eq_1 K a E E1) D σ H):=rfl
def zcl(K:FK)(a:Ad)(E:XE):TS:=(rd_Book_ask_for_place_2 K a E E)
def rd_Plank_read_1(K:FK)(a:Ad)(E E1:XE):TS:=(zlf (zbq (a "Plank") "ask_for_block" (zat K a) [] E (tVr 0) (zaf (tVr 1) tNil)))
theorem zjx:type_of% (ap3 (rd_Plank_read_1.eq_1 K a E E1) D σ H):=rfl
def rd_Plank_read_2(K:FK)(a:Ad)(E E1:XE):TS:=(tRet (tCB (zd1 K) (zaf (tOp (rIxA K) (tFld K (tVr 0) "contents") (tVr 1)) tNil)))
theorem zjy:type_of% (ap3 (rd_Plank_read_2.eq_1 K a E E1) D σ H):=rfl
def zfb(K:FK)(a:Ad)(E:XE):TS:=(tSeq (rd_Plank_read_1 K a E E) (rd_Plank_read_2 K a E E))
def rd_Layout_name_at_1(K:FK)(a:Ad)(E E1:XE):TS:=(tRet (zbq (a "Layout") "place_from" (zam K a) [] E (tVr 0) (zaf (tC (.int 0)) (zaf (tVr 1) tNil))))
theorem zgu:type_of% (ap3 (rd_Layout_name_at_1.eq_1 K a E E1) D σ H):=rfl
def zdp(K:FK)(a:Ad)(E:XE):TS:=(rd_Layout_name_at_1 K a E E)
def rd_Layout_record_at_1(K:FK)(a:Ad)(E E1:XE):TS:=(tRet (zbq (a "Layout") "place_from" (zam K a) [] E (tVr 0) (zaf (tFld K (tVr 0) "name_blocks") (zaf (tVr 1) tNil))))
theorem zf5:type_of% (ap3 (rd_Layout_record_at_1.eq_1 K a E E1) D σ H):=rfl
def zcy(K:FK)(a:Ad)(E:XE):TS:=(rd_Layout_record_at_1 K a E E)
def rd_Layout_record_mark_1(K:FK)(a:Ad)(E E1:XE):TS:=(tRet (zbq (a "Layout") "place_from" (zam K a) [] E (tVr 0) (zaf (zbq (a "Layout") "blocks_ahead_of_marks" (zag K a) [] E (tVr 0) tNil) (zaf (tVr 1) tNil))))
theorem zfm:type_of% (ap3 (rd_Layout_record_mark_1.eq_1 K a E E1) D σ H):=rfl
def zcm(K:FK)(a:Ad)(E:XE):TS:=(rd_Layout_record_mark_1 K a E E)
def rd_Layout_blocks_1(K:FK)(a:Ad)(E E1:XE):TS:=(tRet (tOp (ze4 K) (tOp (ze4 K) (zbq (a "Layout") "blocks_ahead_of_marks" (zag K a) [] E (tVr 0) tNil) (tFld K (tVr 0) "record_blocks")) (tFld K (tVr 0) "piece_blocks")))
theorem zg7:type_of% (ap3 (rd_Layout_blocks_1.eq_1 K a E E1) D σ H):=rfl
def zdy(K:FK)(a:Ad)(E:XE):TS:=(rd_Layout_blocks_1 K a E E)
def rd_Book_newest_1(K:FK)(a:Ad)(E E1:XE):TS:=(zlf (zbq (a "Hold") "ask_for_place" (za2 K a) [] E (tVr 0) (zaf (tVr 1) tNil)))
theorem ziq:type_of% (ap3 (rd_Book_newest_1.eq_1 K a E E1) D σ H):=rfl
def rd_Book_newest_2(K:FK)(a:Ad)(E E1:XE):TS:=(tRet (zut (tFld K (tVr 0) "latest") (tVr 1)))
theorem zir:type_of% (ap3 (rd_Book_newest_2.eq_1 K a E E1) D σ H):=rfl
def zes(K:FK)(a:Ad)(E:XE):TS:=(tSeq (rd_Book_newest_1 K a E E) (rd_Book_newest_2 K a E E))
def rd_Layout_plank_1(K:FK)(a:Ad)(E E1:XE):TS:=(tRet (zqa (a "Plank") (zcf K a) [] E (zaf (zbq (a "Layout") "blocks" (zbn K a) [] E (tVr 0) tNil) (zaf (tFld K (tVr 0) "width") tNil))))
theorem zht:type_of% (ap3 (rd_Layout_plank_1.eq_1 K a E E1) D σ H):=rfl
def zeb(K:FK)(a:Ad)(E:XE):TS:=(rd_Layout_plank_1 K a E E)
def rd_Book_change_1(K:FK)(a:Ad)(E E1:XE):TS:=(tAsg (zbq (a "Hold") "newest" (zbl K a) [] E (tVr 0) (zaf (tVr 1) tNil)) (zbw 4))
theorem zis:type_of% (ap3 (rd_Book_change_1.eq_1 K a E E1) D σ H):=rfl
def rd_Book_change_2(K:FK)(a:Ad)(E E1:XE):TS:=(zlf (zbq (a "Hold") "ask_for_changes" (zan K a) [] E (tVr 0) (zaf (tVr 3) tNil)))
theorem zit:type_of% (ap3 (rd_Book_change_2.eq_1 K a E E1) D σ H):=rfl
def rd_Book_change_3(K:FK)(a:Ad)(E E1:XE):TS:=(tAsg (tCB (zbz K) (zaf (tFld K (tVr 0) "made") tNil)) (zbw 5))
theorem ziu:type_of% (ap3 (rd_Book_change_3.eq_1 K a E E1) D σ H):=rfl
def rd_Book_change_4(K:FK)(a:Ad)(E E1:XE):TS:=(zlf (tBM K "list" zgc (tFld K (tVr 0) "made") (zaf (zqa (a "Change") (zb6 K a) [] E (zaf (tVr 1) (zaf (tVr 2) (zaf (zke (zci K a) [] E (zaf (tVr 3) (zaf (tVr 4) tNil))) tNil)))) tNil)))
theorem ziv:type_of% (ap3 (rd_Book_change_4.eq_1 K a E E1) D σ H):=rfl
def rd_Book_change_5(K:FK)(a:Ad)(E E1:XE):TS:=(zlf (tBM K "list" zgc (tOp (rIxA K) (tFld K (tVr 0) "made_in") (tOp (rIxA K) (tVr 1) (tC (.int 0)))) (zaf (tVr 5) tNil)))
theorem ziw:type_of% (ap3 (rd_Book_change_5.eq_1 K a E E1) D σ H):=rfl
def rd_Book_change_6(K:FK)(a:Ad)(E E1:XE):TS:=(zyi (tFld K (tVr 0) "latest") (tVr 1) (tVr 5))
theorem zix:type_of% (ap3 (rd_Book_change_6.eq_1 K a E E1) D σ H):=rfl
def rd_Book_change_7(K:FK)(a:Ad)(E E1:XE):TS:=(tRet (tVr 5))
theorem ziy:type_of% (ap3 (rd_Book_change_7.eq_1 K a E E1) D σ H):=rfl
def zet(K:FK)(a:Ad)(E:XE):TS:=(tSeq (rd_Book_change_1 K a E E) (tSeq (rd_Book_change_2 K a E E) (tSeq (rd_Book_change_3 K a E E) (tSeq (rd_Book_change_4 K a E E) (tSeq (rd_Book_change_5 K a E E) (tSeq (rd_Book_change_6 K a E E) (rd_Book_change_7 K a E E)))))))
def rd_Book_in_hand_1(K:FK)(a:Ad)(E E1:XE):TS:=(tAsg (zbq (a "Hold") "newest" (zbl K a) [] E (tVr 0) (zaf (tVr 1) tNil)) (zbw 2))
theorem zhu:type_of% (ap3 (rd_Book_in_hand_1.eq_1 K a E E1) D σ H):=rfl
def rd_Book_in_hand_2(K:FK)(a:Ad)(E E1:XE):TS:=(tRet (tOp (rIxA K) (zbq (a "Plank") "read" (zcg K a) [] E (tFld K (tVr 0) "ground") (zaf (tOp (rIxA K) (tVr 1) (tC (.int 0))) tNil)) (tOp (rIxA K) (tVr 1) (tC (.int 1)))))
theorem zhv:type_of% (ap3 (rd_Book_in_hand_2.eq_1 K a E E1) D σ H):=rfl
def rd_Book_in_hand_3(K:FK)(a:Ad)(E E1:XE):TS:=(tIfS (zfe (tOp rIsN (tVr 2) (tC .non))) (rd_Book_in_hand_2 K a E E) zf2)
theorem zhw:type_of% (ap3 (rd_Book_in_hand_3.eq_1 K a E E1) D σ H):=rfl
def rd_Book_in_hand_4(K:FK)(a:Ad)(E E1:XE):TS:=(tRet (tFld K (tOp (rIxA K) (tFld K (tVr 0) "made") (tVr 2)) "value"))
theorem zhx:type_of% (ap3 (rd_Book_in_hand_4.eq_1 K a E E1) D σ H):=rfl
def zec(K:FK)(a:Ad)(E:XE):TS:=(tSeq (rd_Book_in_hand_1 K a E E) (tSeq (rd_Book_in_hand_3 K a E E) (rd_Book_in_hand_4 K a E E)))
def rd_Store_init_1(K:FK)(a:Ad)(E E1:XE):TS:=(sFld K (tVr 0) (tVr 1) "plan")
theorem zjz:type_of% (ap3 (rd_Store_init_1.eq_1 K a E E1) D σ H):=rfl
def rd_Store_init_2(K:FK)(a:Ad)(E E1:XE):TS:=(sFld K (tVr 0) (zqa (a "Hold") (zch K a) [] E (zaf (tVr 2) tNil)) "book")
theorem zj0:type_of% (ap3 (rd_Store_init_2.eq_1 K a E E1) D σ H):=rfl
def rd_Store_init_3(K:FK)(a:Ad)(E E1:XE):TS:=(sFld K (tVr 0) zsu "taken_out")
theorem zj1:type_of% (ap3 (rd_Store_init_3.eq_1 K a E E1) D σ H):=rfl
def zfc(K:FK)(a:Ad)(E:XE):TS:=(tSeq (rd_Store_init_1 K a E E) (tSeq (rd_Store_init_2 K a E E) (rd_Store_init_3 K a E E)))
def rd_lowest_with_1(K:FK)(a:Ad)(E E1:XE):TS:=(tRet (tVr 3))
theorem ziz:type_of% (ap3 (rd_lowest_with_1.eq_1 K a E E1) D σ H):=rfl
def rd_lowest_with_2(K:FK)(a:Ad)(E E1:XE):TS:=(tIfS (zfe (tOp (rInB K) (zbq (a "Hold") "in_hand" (zay K a) [] E (tVr 0) (zaf (tVr 4) tNil)) (tVr 2))) (rd_lowest_with_1 K a E E) zf2)
theorem zi0:type_of% (ap3 (rd_lowest_with_2.eq_1 K a E E1) D σ H):=rfl
def rd_lowest_with_3(K:FK)(a:Ad)(E E1:XE):TS:=(tFor (zxc K (zaf (tVr 1) tNil)) (gTup K 2 (ztb (zbw 3) (ztb (zbw 4) gNil))) (rd_lowest_with_2 K a E E))
theorem zi1:type_of% (ap3 (rd_lowest_with_3.eq_1 K a E E1) D σ H):=rfl
def rd_lowest_with_4(K:FK)(a:Ad)(E E1:XE):TS:=(zk7 (a "NoRoom") E (zaf (tC (.str "nothing of what is to be taken is free")) tNil))
theorem zi2:type_of% (ap3 (rd_lowest_with_4.eq_1 K a E E1) D σ H):=rfl
def zeu(K:FK)(a:Ad)(E:XE):TS:=(tSeq (rd_lowest_with_3 K a E E) (rd_lowest_with_4 K a E E))
def rd_Store_name_cells_1(K:FK)(a:Ad)(E E1:XE):TS:=(tRet (zjm (zoy (zaf (tOp (rIxA K) (zbq (a "Layout") "counts" (za1 K a) [] E (tFld K (tVr 0) "plan") tNil) (tC (.int 0))) tNil)) (zbw 0) zg3 (zbq (a "Hold") "in_hand" (zay K a) [] (λ_=>E0) (tFld K (tVr 1) "book") (zaf (zbq (a "Layout") "name_at" (zap K a) [] (λ_=>E0) (tFld K (tVr 1) "plan") (zaf (tVr 0) tNil)) tNil)) 1 [0]))
theorem zf6:type_of% (ap3 (rd_Store_name_cells_1.eq_1 K a E E1) D σ H):=rfl
def zcz(K:FK)(a:Ad)(E:XE):TS:=(rd_Store_name_cells_1 K a E E)
def rd_Store_fill_cell_1(K:FK)(a:Ad)(E E1:XE):TS:=(tAsg (tLst (zaf (tVr 4) tNil)) (zbw 5))
theorem zgj:type_of% (ap3 (rd_Store_fill_cell_1.eq_1 K a E E1) D σ H):=rfl
def rd_Store_fill_cell_2(K:FK)(a:Ad)(E E1:XE):TS:=(zlf (tBM K "list" zgc (tVr 5) (zaf (zyg (tFld K (tVr 0) "taken_out") (tVr 2)) tNil)))
theorem zgk:type_of% (ap3 (rd_Store_fill_cell_2.eq_1 K a E E1) D σ H):=rfl
def rd_Store_fill_cell_3(K:FK)(a:Ad)(E E1:XE):TS:=(tIfS (tB (tDIn (tVr 2) (tFld K (tVr 0) "taken_out"))) (rd_Store_fill_cell_2 K a E E) zf2)
theorem zgl:type_of% (ap3 (rd_Store_fill_cell_3.eq_1 K a E E1) D σ H):=rfl
def rd_Store_fill_cell_4(K:FK)(a:Ad)(E E1:XE):TS:=(tRet (zbq (a "Hold") "change" (za6 K a) [] E (tFld K (tVr 0) "book") (zaf (zbq (a "Layout") "name_at" (zap K a) [] E (tFld K (tVr 0) "plan") (zaf (tVr 1) tNil)) (zaf (tTup (zaf (tVr 2) (zaf (tVr 3) tNil))) (zaf (tVr 5) tNil)))))
theorem zgm:type_of% (ap3 (rd_Store_fill_cell_4.eq_1 K a E E1) D σ H):=rfl
def zde(K:FK)(a:Ad)(E:XE):TS:=(tSeq (rd_Store_fill_cell_1 K a E E) (tSeq (rd_Store_fill_cell_3 K a E E) (rd_Store_fill_cell_4 K a E E)))
def rd_free_name_1(K:FK)(a:Ad)(E E1:XE):TS:=(tAsg (zjm (zoy (zaf (tOp (rIxA K) (zbq (a "Layout") "counts" (za1 K a) [] E (tVr 0) tNil) (tC (.int 0))) tNil)) (zbw 0) zg3 (zbq (a "Layout") "name_at" (zap K a) [] (λ_=>E0) (tVr 1) (zaf (tVr 0) tNil)) 1 [0]) (zbw 2))
theorem zkr:type_of% (ap3 (rd_free_name_1.eq_1 K a E E1) D σ H):=rfl
def rd_free_name_2(K:FK)(a:Ad)(E E1:XE):TS:=(tRet (zke (zbe K a) [] E (zaf (tVr 1) (zaf (tVr 2) (zaf (tTup (zaf (tC .non) tNil)) tNil)))))
theorem zks:type_of% (ap3 (rd_free_name_2.eq_1 K a E E1) D σ H):=rfl
def zfs(K:FK)(a:Ad)(E:XE):TS:=(tSeq (rd_free_name_1 K a E E) (rd_free_name_2 K a E E))
def rd_free_record_1(K:FK)(a:Ad)(E E1:XE):TS:=(tAsg (zjm (zoy (zaf (tOp (rIxA K) (zbq (a "Layout") "counts" (za1 K a) [] E (tVr 0) tNil) (tC (.int 1))) tNil)) (zbw 0) zg3 (zbq (a "Layout") "record_mark" (zal K a) [] (λ_=>E0) (tVr 1) (zaf (tVr 0) tNil)) 1 [0]) (zbw 2))
theorem zi3:type_of% (ap3 (rd_free_record_1.eq_1 K a E E1) D σ H):=rfl
def rd_free_record_2(K:FK)(a:Ad)(E E1:XE):TS:=(tRet (zke (zbe K a) [] E (zaf (tVr 1) (zaf (tVr 2) (zaf (tTup (zaf (tC .non) (zaf (tC (.int 0)) tNil))) tNil)))))
theorem zi4:type_of% (ap3 (rd_free_record_2.eq_1 K a E E1) D σ H):=rfl
def zev(K:FK)(a:Ad)(E:XE):TS:=(tSeq (rd_free_record_1 K a E E) (rd_free_record_2 K a E E))
def rd_Store_names_1(K:FK)(a:Ad)(E E1:XE):TS:=(tRet (tCB (zfw K) (zaf (zjm (iSeq K (zbq (a "Store") "name_cells" (za0 K a) [] E (tVr 0) tNil)) (zbw 0) (zfe (tOp zu1 (tVr 0) (tC .non))) (tOp (rIxA K) (tVr 0) (tC (.int 0))) 1 []) tNil)))
theorem zi5:type_of% (ap3 (rd_Store_names_1.eq_1 K a E E1) D σ H):=rfl
def zew(K:FK)(a:Ad)(E:XE):TS:=(rd_Store_names_1 K a E E)
def rd_Store_cell_of_1(K:FK)(a:Ad)(E E1:XE):TS:=(tRet (tVr 2))
theorem zg8:type_of% (ap3 (rd_Store_cell_of_1.eq_1 K a E E1) D σ H):=rfl
def rd_Store_cell_of_2(K:FK)(a:Ad)(E E1:XE):TS:=(tIfS (tAnd (zfe (tOp zu1 (tVr 3) (tC .non))) (zfe (tOp (rEqA K) (tOp (rIxA K) (tVr 3) (tC (.int 0))) (tVr 1)))) (rd_Store_cell_of_1 K a E E) zf2)
theorem zg9:type_of% (ap3 (rd_Store_cell_of_2.eq_1 K a E E1) D σ H):=rfl
def rd_Store_cell_of_3(K:FK)(a:Ad)(E E1:XE):TS:=(tFor (zxc K (zaf (zbq (a "Store") "name_cells" (za0 K a) [] E (tVr 0) tNil) tNil)) (gTup K 2 (ztb (zbw 2) (ztb (zbw 3) gNil))) (rd_Store_cell_of_2 K a E E))
theorem zha:type_of% (ap3 (rd_Store_cell_of_3.eq_1 K a E E1) D σ H):=rfl
def rd_Store_cell_of_4(K:FK)(a:Ad)(E E1:XE):TS:=(tRet (tC .non))
theorem zhb:type_of% (ap3 (rd_Store_cell_of_4.eq_1 K a E E1) D σ H):=rfl
def zdz(K:FK)(a:Ad)(E:XE):TS:=(tSeq (rd_Store_cell_of_3 K a E E) (rd_Store_cell_of_4 K a E E))
def rd_Store_ask_for_new_name_1(K:FK)(a:Ad)(E E1:XE):TS:=(zk7 (a "NoName") E (zaf (tC (.str "the text is no name")) tNil))
theorem zez:type_of% (ap3 (rd_Store_ask_for_new_name_1.eq_1 K a E E1) D σ H):=rfl
def rd_Store_ask_for_new_name_2(K:FK)(a:Ad)(E E1:XE):TS:=(tIfS (tNot (tTru K (tCB (zge K) (zaf (zjm (iSeq K (tVr 2)) (zbw 0) zg3 (zke (zd3 K a) [] (λ_=>E0) (zaf (tVr 0) tNil)) 1 []) tNil)))) (rd_Store_ask_for_new_name_1 K a E E) zf2)
theorem ze0:type_of% (ap3 (rd_Store_ask_for_new_name_2.eq_1 K a E E1) D σ H):=rfl
def rd_Store_ask_for_new_name_3(K:FK)(a:Ad)(E E1:XE):TS:=(zk7 (a "Twice") E (zaf (tC (.str "the new name stands already")) tNil))
theorem ze1:type_of% (ap3 (rd_Store_ask_for_new_name_3.eq_1 K a E E1) D σ H):=rfl
def rd_Store_ask_for_new_name_4(K:FK)(a:Ad)(E E1:XE):TS:=(tIfS (zfe (tOp zu1 (zbq (a "Store") "cell_of" (zbo K a) [] E (tVr 0) (zaf (tVr 1) tNil)) (tC .non))) (rd_Store_ask_for_new_name_3 K a E E) zf2)
theorem ze2:type_of% (ap3 (rd_Store_ask_for_new_name_4.eq_1 K a E E1) D σ H):=rfl
def zbu(K:FK)(a:Ad)(E:XE):TS:=(tSeq (rd_Store_ask_for_new_name_2 K a E E) (rd_Store_ask_for_new_name_4 K a E E))
def rd_Store_make_1(K:FK)(a:Ad)(E E1:XE):TS:=(zlf (zbq (a "Store") "ask_for_new_name" (zar K a) [] E (tVr 0) (zaf (tVr 1) (zaf (tLst (zaf (tVr 1) tNil)) tNil))))
theorem zj2:type_of% (ap3 (rd_Store_make_1.eq_1 K a E E1) D σ H):=rfl
def rd_Store_make_2(K:FK)(a:Ad)(E E1:XE):TS:=(tAsg (zke (zb7 K a) [] E (zaf (tFld K (tVr 0) "plan") (zaf (tFld K (tVr 0) "book") tNil))) (zbw 2))
theorem zj3:type_of% (ap3 (rd_Store_make_2.eq_1 K a E E1) D σ H):=rfl
def rd_Store_make_3(K:FK)(a:Ad)(E E1:XE):TS:=(tAsg (zke (zcv K a) [] E (zaf (tFld K (tVr 0) "plan") (zaf (tFld K (tVr 0) "book") tNil))) (zbw 3))
theorem zj4:type_of% (ap3 (rd_Store_make_3.eq_1 K a E E1) D σ H):=rfl
def rd_Store_make_4(K:FK)(a:Ad)(E E1:XE):TS:=(tAsg (zbq (a "Hold") "change" (za6 K a) [] E (tFld K (tVr 0) "book") (zaf (zbq (a "Layout") "record_mark" (zal K a) [] E (tFld K (tVr 0) "plan") (zaf (tVr 2) tNil)) (zaf (tC (.int 1)) (zaf (tLst tNil) tNil)))) (zbw 4))
theorem zj5:type_of% (ap3 (rd_Store_make_4.eq_1 K a E E1) D σ H):=rfl
def rd_Store_make_5(K:FK)(a:Ad)(E E1:XE):TS:=(tAsg (zbq (a "Hold") "change" (za6 K a) [] E (tFld K (tVr 0) "book") (zaf (zbq (a "Layout") "record_at" (zaz K a) [] E (tFld K (tVr 0) "plan") (zaf (tVr 2) tNil)) (zaf (tTup (zaf (tC (.int 1)) (zaf (tTup tNil) tNil))) (zaf (tLst (zaf (tVr 4) tNil)) tNil)))) (zbw 5))
theorem zj6:type_of% (ap3 (rd_Store_make_5.eq_1 K a E E1) D σ H):=rfl
def rd_Store_make_6(K:FK)(a:Ad)(E E1:XE):TS:=(tRet (tLst (zaf (tVr 4) (zaf (tVr 5) (zaf (zbq (a "Store") "fill_cell" (zba K a) [] E (tVr 0) (zaf (tVr 3) (zaf (tVr 1) (zaf (tVr 2) (zaf (tVr 5) tNil))))) tNil)))))
theorem zj7:type_of% (ap3 (rd_Store_make_6.eq_1 K a E E1) D σ H):=rfl
def zfd(K:FK)(a:Ad)(E:XE):TS:=(tSeq (rd_Store_make_1 K a E E) (tSeq (rd_Store_make_2 K a E E) (tSeq (rd_Store_make_3 K a E E) (tSeq (rd_Store_make_4 K a E E) (tSeq (rd_Store_make_5 K a E E) (rd_Store_make_6 K a E E))))))
def rd_law_made_1(K:FK)(a:Ad)(E E1:XE):TS:=(tAsg (zbq (a "Store") "make" (zbt K a) [] E (tVr 1) (zaf (tVr 2) tNil)) (zbw 4))
theorem zlp:type_of% (ap3 (rd_law_made_1.eq_1 K a E E1) D σ H):=rfl
def zpf(K:FK)(a:Ad)(E E1:XE):TS:=(tRet (tC (.bl false)))
def rd_law_made_3(K:FK)(a:Ad)(E E1:XE):TS:=(tIfS (tOr (tNot (tTru K (tCB (zdo K) (zaf (tVr 4) (zaf (tC (.ty "list")) tNil))))) (tOr (zfe (tOp (rNeA K) (tVr 4) (tLst (zaf (tOp (zgt K) (tC (.int 3)) (tVr 3)) (zaf (tOp (ze4 K) (tOp (zgt K) (tC (.int 3)) (tVr 3)) (tC (.int 1))) (zaf (tOp (ze4 K) (tOp (zgt K) (tC (.int 3)) (tVr 3)) (tC (.int 2))) tNil)))))) (tTru K (tCB (zdo K) (zaf (tOp (rIxA K) (tVr 4) (tC (.int 0))) (zaf (tC (.ty "bool")) tNil)))))) (zpf K a E E) zf2)
theorem zlq:type_of% (ap3 (rd_law_made_3.eq_1 K a E E1) D σ H):=rfl
def rd_law_made_4(K:FK)(a:Ad)(E E1:XE):TS:=(tAsg (zbq (a "Store") "hold" (zck K a) [] E (tVr 1) tNil) (zbw 5))
theorem zlr:type_of% (ap3 (rd_law_made_4.eq_1 K a E E1) D σ H):=rfl
def zpg(K:FK)(a:Ad)(E E1:XE):TS:=(tRet (tC (.bl false)))
def rd_law_made_6(K:FK)(a:Ad)(E E1:XE):TS:=(tIfS (tOr (zfe (tOp (rNeA K) (zbq (a "Hold") "in_hand" (zay K a) [] E (tVr 5) (zaf (zbq (a "Layout") "record_mark" (zal K a) [] E (tVr 0) (zaf (tVr 3) tNil)) tNil)) (tC (.int 1)))) (zfe (tOp (rNeA K) (zbq (a "Hold") "in_hand" (zay K a) [] E (tVr 5) (zaf (zbq (a "Layout") "record_at" (zaz K a) [] E (tVr 0) (zaf (tVr 3) tNil)) tNil)) (tTup (zaf (tC (.int 1)) (zaf (tTup tNil) tNil)))))) (zpg K a E E) zf2)
theorem zls:type_of% (ap3 (rd_law_made_6.eq_1 K a E E1) D σ H):=rfl
def zph(K:FK)(a:Ad)(E E1:XE):TS:=(tRet (tC (.bl false)))
def rd_law_made_8(K:FK)(a:Ad)(E E1:XE):TS:=(tIfS (zfe (tOp (rNeA K) (zbq (a "Hold") "in_hand" (zay K a) [] E (tVr 5) (zaf (zbq (a "Layout") "name_at" (zap K a) [] E (tVr 0) (zaf (tVr 3) tNil)) tNil)) (tTup (zaf (tVr 2) (zaf (tVr 3) tNil))))) (zph K a E E) zf2)
theorem zlt:type_of% (ap3 (rd_law_made_8.eq_1 K a E E1) D σ H):=rfl
def zpi(K:FK)(a:Ad)(E E1:XE):TS:=(tRet (tC (.bl false)))
def rd_law_made_10(K:FK)(a:Ad)(E E1:XE):TS:=(tIfS (tOr (zfe (tOp (rNeA K) (zbq (a "Hold") "needed" (zbd K a) [] E (tVr 5) (zaf (tOp (zgt K) (tC (.int 3)) (tVr 3)) tNil)) (tLst tNil))) (zfe (tOp (rNeA K) (zbq (a "Hold") "needed" (zbd K a) [] E (tVr 5) (zaf (tOp (ze4 K) (tOp (zgt K) (tC (.int 3)) (tVr 3)) (tC (.int 1))) tNil)) (tLst (zaf (tOp (zgt K) (tC (.int 3)) (tVr 3)) tNil))))) (zpi K a E E) zf2)
theorem zkt:type_of% (ap3 (rd_law_made_10.eq_1 K a E E1) D σ H):=rfl
def rd_law_made_11(K:FK)(a:Ad)(E E1:XE):TS:=(tRet (tOp (rEqA K) (zbq (a "Hold") "needed" (zbd K a) [] E (tVr 5) (zaf (tOp (ze4 K) (tOp (zgt K) (tC (.int 3)) (tVr 3)) (tC (.int 2))) tNil)) (tLst (zaf (tOp (ze4 K) (tOp (zgt K) (tC (.int 3)) (tVr 3)) (tC (.int 1))) tNil))))
theorem zku:type_of% (ap3 (rd_law_made_11.eq_1 K a E E1) D σ H):=rfl
def zgn(K:FK)(a:Ad)(E:XE):TS:=(tSeq (rd_law_made_1 K a E E) (tSeq (rd_law_made_3 K a E E) (tSeq (rd_law_made_4 K a E E) (tSeq (rd_law_made_6 K a E E) (tSeq (rd_law_made_8 K a E E) (tSeq (rd_law_made_10 K a E E) (rd_law_made_11 K a E E)))))))
def rd_law_refused_1(K:FK)(a:Ad)(E E1:XE):TS:=(tAsg (tC (.bl false)) (zbw 2))
theorem zi6:type_of% (ap3 (rd_law_refused_1.eq_1 K a E E1) D σ H):=rfl
def rd_law_refused_2(K:FK)(a:Ad)(E E1:XE):TS:=(zlf (zbq (a "Store") "make" (zbt K a) [] E1 (tVr 0) (zaf (tVr 1) tNil)))
theorem zi7:type_of% (ap3 (rd_law_refused_2.eq_1 K a E E1) D σ H):=rfl
def rd_law_refused_3(K:FK)(a:Ad)(E E1:XE):TS:=(tAsg (zv1 (tCB (zdo K) (zaf (tVr 3) (zaf (tC (.ref (a "HoldError"))) tNil))) (tCB (zdo K) (zaf (tVr 3) (zaf (tC (.ty "ValueError")) tNil)))) (zbw 2))
theorem zi8:type_of% (ap3 (rd_law_refused_3.eq_1 K a E E1) D σ H):=rfl
def rd_law_refused_4(K:FK)(a:Ad)(E E1:XE):TS:=(tTry (λE1=>(rd_law_refused_2 K a E E1)) (zsz (λcls=>PySem.W.exmOne K cls (.ref (a "NoRoom"))) 3 (rd_law_refused_3 K a E E) zaaw))
theorem zi9:type_of% (ap3 (rd_law_refused_4.eq_1 K a E E1) D σ H):=rfl
def rd_law_refused_5(K:FK)(a:Ad)(E E1:XE):TS:=(tRet (tVr 2))
theorem zja:type_of% (ap3 (rd_law_refused_5.eq_1 K a E E1) D σ H):=rfl
def zex(K:FK)(a:Ad)(E:XE):TS:=(tSeq (rd_law_refused_1 K a E E) (tSeq (rd_law_refused_4 K a E E) (rd_law_refused_5 K a E E)))
def rd_law_1(K:FK)(a:Ad)(E E1:XE):TS:=(tAsg (zke (zbk K a) [] E (zaf (tVr 0) (zaf (tC (.int 0)) tNil))) (zbw 1))
theorem zsd:type_of% (ap3 (rd_law_1.eq_1 K a E E1) D σ H):=rfl
def rd_law_2(K:FK)(a:Ad)(E E1:XE):TS:=(tAsg (zqa (a "Layout") (zb5 K a) [] E (zaf (tOp (ze4 K) (tC (.int 1)) (tOp zli (tVr 1) (tC (.int 6)))) (zaf (tOp (ze4 K) (tC (.int 1)) (tOp zli (tOp zqk (tVr 1) (tC (.int 6))) (tC (.int 6)))) (zaf (tC (.int 1)) (zaf (tOp (ze4 K) (tC (.int 1)) (tOp zli (tOp zqk (tVr 1) (tC (.int 36))) (tC (.int 6)))) tNil))))) (zbw 2))
theorem zse:type_of% (ap3 (rd_law_2.eq_1 K a E E1) D σ H):=rfl
def rd_law_3(K:FK)(a:Ad)(E E1:XE):TS:=(tAsg (tOp (zgt K) (tCB (zg5 K) (zaf (tOp (ze4 K) (tC (.int 1)) (tOp zli (tVr 1) (tC (.int 6)))) (zaf (tOp (ze4 K) (tC (.int 1)) (tOp zli (tOp zqk (tVr 1) (tC (.int 6))) (tC (.int 6)))) tNil))) (tOp (ze4 K) (tC (.int 1)) (tOp zli (tOp zqk (tVr 1) (tC (.int 36))) (tC (.int 6))))) (zbw 3))
theorem zsf:type_of% (ap3 (rd_law_3.eq_1 K a E E1) D σ H):=rfl
def rd_law_4(K:FK)(a:Ad)(E E1:XE):TS:=(tAsg (zqa (a "Store") (zcj K a) [] E (zaf (tVr 2) (zaf (zbq (a "Layout") "plank" (zbv K a) [] E (tVr 2) tNil) tNil))) (zbw 4))
theorem zsg:type_of% (ap3 (rd_law_4.eq_1 K a E E1) D σ H):=rfl
def rd_law_5(K:FK)(a:Ad)(E E1:XE):TS:=(tAsg (tLst tNil) (zbw 5))
theorem zsh:type_of% (ap3 (rd_law_5.eq_1 K a E E1) D σ H):=rfl
def rd_law_6(K:FK)(a:Ad)(E E1:XE):TS:=(tAsg (zke (zdf K a) [] E (zaf (tCB (zbz K) (zaf (tVr 5) tNil)) (zaf (tVr 1) tNil))) (zbw 6))
theorem zsi:type_of% (ap3 (rd_law_6.eq_1 K a E E1) D σ H):=rfl
def zxf(K:FK)(a:Ad)(E E1:XE):TS:=(tRet (tC (.bl false)))
def rd_law_8(K:FK)(a:Ad)(E E1:XE):TS:=(tIfS (tNot (tTru K (zke (zdg K a) [] E (zaf (tVr 2) (zaf (tVr 4) (zaf (tVr 6) (zaf (tCB (zbz K) (zaf (tVr 5) tNil)) tNil))))))) (zxf K a E E) zf2)
theorem zsj:type_of% (ap3 (rd_law_8.eq_1 K a E E1) D σ H):=rfl
def rd_law_9(K:FK)(a:Ad)(E E1:XE):TS:=(zlf (tBM K "list" zgc (tVr 5) (zaf (tVr 6) tNil)))
theorem zsk:type_of% (ap3 (rd_law_9.eq_1 K a E E1) D σ H):=rfl
def zvr(K:FK)(a:Ad)(E E1:XE):TS:=(tRet (tC (.bl false)))
def rd_law_11(K:FK)(a:Ad)(E E1:XE):TS:=(tIfS (tNot (tTru K (zke (zb9 K a) [] E (zaf (tVr 4) (zaf (tVr 6) tNil))))) (zvr K a E E) zf2)
theorem zq8:type_of% (ap3 (rd_law_11.eq_1 K a E E1) D σ H):=rfl
def rd_law_12(K:FK)(a:Ad)(E E1:XE):TS:=(tIfS (zfe (tOp rLtA (tCB (zbz K) (zaf (tVr 5) tNil)) (tVr 3))) (tSeq (rd_law_8 K a E E) (rd_law_9 K a E E)) (rd_law_11 K a E E))
theorem zq9:type_of% (ap3 (rd_law_12.eq_1 K a E E1) D σ H):=rfl
def zvs(K:FK)(a:Ad)(E E1:XE):TS:=(tRet (tC (.bl false)))
def rd_law_14(K:FK)(a:Ad)(E E1:XE):TS:=(tIfS (zfe (tOp (rNeA K) (zbq (a "Store") "names" (zb8 K a) [] E (tVr 4) tNil) (tCB (zfw K) (zaf (tVr 5) tNil)))) (zvs K a E E) zf2)
theorem zra:type_of% (ap3 (rd_law_14.eq_1 K a E E1) D σ H):=rfl
def rd_law_15(K:FK)(a:Ad)(E E1:XE):TS:=(tFor (iSeq K (tVr 0)) (zbw 1) (tSeq (rd_law_6 K a E E) (tSeq (rd_law_12 K a E E) (rd_law_14 K a E E))))
theorem zrb:type_of% (ap3 (rd_law_15.eq_1 K a E E1) D σ H):=rfl
def rd_law_16(K:FK)(a:Ad)(E E1:XE):TS:=(tRet (tC (.bl true)))
theorem zrc:type_of% (ap3 (rd_law_16.eq_1 K a E E1) D σ H):=rfl
def zs7(K:FK)(a:Ad)(E:XE):TS:=(tSeq (rd_law_1 K a E E) (tSeq (rd_law_2 K a E E) (tSeq (rd_law_3 K a E E) (tSeq (rd_law_4 K a E E) (tSeq (rd_law_5 K a E E) (tSeq (rd_law_15 K a E E) (rd_law_16 K a E E)))))))
end
end L2
set_option linter.all false
set_option maxRecDepth 100000
set_option maxHeartbeats 8000000
namespace L2
open PySem PySem.Spec PyProof.Rows
local macro_rules
 | `(tactic| push_cast[$ls,*])=>`(tactic| simp only[↓zyt,↓zwo,↓zu4,↓zwp,↓zyu,↓zwq,↓zyv,↓zwr,↓zyw,↓zacq,↓zaa1,↓zws,↓zu5,↓zyx,↓zyy,↓zaa2,↓zwt,↓zyz,↓zwu,↓zy0,↓zaa3,↓zy1,↓zwv,↓zy2,↓zy3,↓zww,↓zwx,↓zwy,↓zy4,↓zy5,↓zaa4,↓zaa5,↓zu6,↓zy6,↓zwz,↓zy7,↓zy8,↓zy9,↓zw0,↓zaa6,↓ztm,↓zw1,↓zaa7,↓zza,↓zzb,↓zw2,↓zo7,↓zo8,↓zqm,↓zqn,↓zqo,↓zrw,↓ztn,
     ↓zacr,↓zacs,↓zact,↓zaa9,↓zaba,↓zu7,↓zto,↓ztp,↓zzc,↓zzd,↓zze,↓zzf,↓zzh,↓zzg,↓zacu,↓rI_i,↓rU_i,↓zabe,↓zabf,↓zabc,↓zabb,↓zabd,↓zabg,↓zabh,↓zabi,↓zabj,↓zabk,↓zzi,↓zzj,↓zzk,↓zabl,↓zabm,↓zabn,↓zzl,↓zzm,↓zzn,↓zzo,↓zw3,↓zacv,↓zabo,↓zacw,↓zacx,↓zacy,↓zxt,↓zzp,
     zacl,zli,zqk,zacm,zacn,zaa0,Ends.drop,zby,List.map_cons,List.map_nil,List.length_cons,List.length_nil,List.reduceReplicate,Nat.reduceAdd,Nat.reduceSub,Nat.zero_add,List.cons_append,List.nil_append,List.append_nil,List.getElem?_cons_zero,List.getElem?_cons_succ,Option.some.injEq,Option.join_some,List.set_cons_zero,List.set_cons_succ,
     V.int.injEq,V.ref.injEq,V.bl.injEq,V.str.injEq,List.cons.injEq,and_true,true_and,exists_eq_left',exists_eq_left,exists_eq',exists_eq,exists_and_left,exists_and_right,reduceCtorEq,false_and,and_false,or_false,false_or,exists_false,decide_eq_true_eq,Bool.not_eq_true',Bool.not_eq_true,decide_eq_false_iff_not,eq_self_iff_true,if_true,Bool.false_eq_true,if_false,ite_true,Bool.true_eq_false,forall_const,and_assoc,Int.reduceToNat,Int.reduceLT,Int.reduceLE,Int.reduceEq,Nat.reduceLeDiff,Int.toNat_natCast,not_true_eq_false,not_false_eq_true,Bool.not_false,Bool.not_true,↓zw9,↓zzs,↓ztw,↓zxa,↓zvj,↓zvk,↓zvl,↓zac3,↓zr9,↓zr8,↓zabt,↓zvi,↓zw8,↓zac1,↓zabw,↓zabx,↓zq2,↓zabz,↓zqt,↓zac0,$ls,*])
section
variable{K:PySem.W.Frag}{a:Ad}{vs:List V}{H:Hp}{Q:VK}{E:XK}
theorem zlu(h:zbk K a vs H Q E):zeq K a (λ_=>E) (ends Q) (zby ["script","k"] vs) H:=by
 obtain⟨s,ns,k,rfl,hs,hl,q⟩:=h
 push_cast[zeq,↓zik,↓zil,↓zim]
 refine⟨ns.length,?_,?_⟩
 ·exact .inl ⟨_,hs,(List.length_map _).symm⟩
 split
 ·rename_i hk
  have hk:k<ns.length:=by omega
  refine zqq hs rfl (v:=.int (zmv ns k)) ?_ q
  unfold zmv
  rw[List.getElem?_map,List.getElem?_eq_getElem hk]
  simp[List.getD,hk]
 ·rename_i hk
  have:zmv ns k=0:=by
   unfold zmv
   rw[List.getD_eq_getElem?_getD,List.getElem?_eq_none (by omega)];rfl
  rw[this]at q
  exact q
theorem zmy(h:zbk K a vs H Q E):vs.length=2:=by
 obtain⟨_,_,_,rfl,_⟩:=h
 rfl
theorem zmz(h:zcf K a vs H Q E):zfa K a (λ_=>E) (ends Q) (zby ["self","blocks","cells"] vs) H:=by
 obtain⟨p,dx,m,w,rfl,T,hp,hm,h1,h2,q⟩:=h
 push_cast[zfa,↓zju,↓zjv,↓zjw]
 refine⟨by omega,by omega,?_⟩
 refine zhm (small m (by omega)) (λi ys H'=>Same H H'/\∃ ts:List Addr,ys=ts.map V.ref/\Paired (λt r=>H' t=some (.tup r)) ts (List.replicate i (List.replicate w .non))) ⟨Same.refl _,[],rfl,.nil⟩ (λi ys H' hi hl ⟨s,ts,e,P⟩=> ?_) (λys H' hl ⟨s,ts,e,P⟩ cl hcl=> ?_)
 ·push_cast[capV,Option.join_some,Int.zero_add]
  refine⟨by decide,λt ht=>.inr ?_⟩
  have fin:∀ (t':Addr) (H2:Hp),Same H' H2->H2 t'=some (.tup (List.replicate w .non))->Same H H2/\∃ ts':List Addr,ys++[V.ref t']=ts'.map V.ref/\Paired (λt r=>H2 t=some (.tup r)) ts' (List.replicate (i+1) (List.replicate w .non)):=λt' H2 s2 e2=>by
   refine⟨s.trans s2,ts++[t'],by rw[e,List.map_append];rfl,?_⟩
   rw[List.replicate_succ']
   exact Paired.snoc (Paired.mapP P λt r z=>s2 _ _ z) e2
  have s1:Same H' (upd H' t (.tup [V.non])):=λb o z=>by rw[zah (zak z ht)];exact z
  refine⟨t,w,[.non],rfl,rfl,SqT.of zac,by simp,by omega,by omega,small _ (by simp;omega),λe1=> ?_,λe1 u hu=> ?_⟩
  ·have e1:w=1:=by omega
   refine fin t _ s1 ?_
   rw[zac,e1];rfl
  ·rw[Int.toNat_natCast,zabp]
   exact fin u _ (s1.trans λb o z=>by rw[zah (zak z hu)];exact z) zac
 ·have npc:p≠cl:=zak (s _ _ hp) hcl
  have e1:upd H' cl (HO.lst ys) p=some (HO.ins (a "Plank") dx []):=by rw[zah npc];exact s _ _ hp
  refine⟨_,_,_,e1,T.cl,T.nC,by decide,_,_,_,zac,T.cl,T.nW,zbr (by decide),_,_,_,zac,T.cl,T.nN,zbr (n:=1000) (Nat.succ_lt_succ (zbr (n:=999) (by decide))),?_⟩
  rw[zab1,zf9,zf9]
  refine q cl _ (s.free hcl) ⟨⟨dx,zac⟩,⟨ts,by rw[zah npc.symm,zac,e],?_⟩,λr hr=> ?_,by simpa using hm,h2⟩ λb o eb hb=> ?_
  ·refine Paired.mapP P λt r z=> ?_
   rw[zah (ze6 z (s _ _ hp) (by intro z';cases z')),zah (zak z hcl)]
   exact z
  ·rw[List.eq_of_mem_replicate hr,List.length_replicate]
  ·rw[zah hb,zah (zak (s _ _ eb) hcl)]
   exact s _ _ eb
theorem zkv(h:zbc K a vs H Q E):zea K a (λ_=>E) (ends Q) (zby ["self"] vs) H:=by
 obtain⟨p,cl,w,rows,n,rfl,T,P,q⟩:=h
 obtain⟨dx,h1⟩:=P.ob
 obtain⟨ts,h2,h3⟩:=P.ls
 push_cast[zea,↓zhs]
 refine⟨_,_,_,h1,T.cl,T.nC,_,pf_c _ _ _,rows.length,.inl ⟨_,SqL.of h2,?_⟩,q⟩
 rw[List.length_map,h3.length]
theorem zlv(h:zb4 K a vs H Q E):zeo K a (λ_=>E) (ends Q) (zby ["self"] vs) H:=by
 obtain⟨p,cl,w,rows,n,rfl,T,P,q⟩:=h
 obtain⟨dx,h1⟩:=P.ob
 push_cast[zeo,↓zif]
 exact⟨_,_,_,h1,T.cl,T.nW,_,pf_w _ _ _,q⟩
theorem zf7(h:zat K a vs H Q E):zcd K a (λ_=>E) (ends Q) (zby ["self","block"] vs) H:=by
 obtain⟨p,cl,w,rows,n,b,rfl,T,P,q,qe⟩:=h
 obtain⟨dx,h1⟩:=P.ob
 obtain⟨ts,h2,h3⟩:=P.ls
 push_cast[zcd,↓zfh,↓zfi]
 have hl:rows.length=(ts.map V.ref).length:=by rw[List.length_map,h3.length]
 split
 ·rename_i h0
  refine⟨_,_,_,h1,T.cl,T.nC,_,pf_c _ _ _,rows.length,.inl ⟨_,SqL.of h2,hl⟩,?_⟩
  split
  ·exact⟨by decide,qe (by omega)⟩
  ·exact q h0 (by omega)
 ·exact⟨by decide,qe (by omega)⟩
theorem zab6(cl:Addr)(w n:Int):(pf cl w n).lookup ("ask_for_block":Str)=none:=zxd _ _ _ (by decide +kernel) (by decide +kernel) (by decide +kernel)
theorem zm0(h:zcg K a vs H Q E):zfb K a (λ_=>E) (ends Q) (zby ["self","block"] vs) H:=by
 obtain⟨p,cl,w,rows,n,b,rfl,T,P,q,qe⟩:=h
 obtain⟨dx,h1⟩:=P.ob
 obtain⟨ts,h2,h3⟩:=P.ls
 push_cast[zfb,↓zjx,↓zjy,zat]
 refine⟨_,_,h1,zab6 _ _ _,T,cl,w,rows,⟨n,P⟩,λh0 hb=>⟨_,_,_,h1,T.cl,T.nC,_,pf_c _ _ _,?_⟩,qe⟩
 obtain⟨i,rfl⟩:∃ i:Nat,b=i:=⟨b.toNat,by omega⟩
 have hi:i<rows.length:=by omega
 obtain⟨t,et,ht⟩:=zjp h3 (List.getElem?_eq_getElem hi)
 refine zqq (SqL.of h2) rfl (v:=.ref t) (by rw[List.getElem?_map,et];rfl) ?_
 rw[zxt]
 exact⟨_,.inr (SqT.of ht),q i _ rfl (List.getElem?_eq_getElem hi)⟩
theorem zzw(cl:Addr)(w n:Int):(pf cl w n).lookup ("read":Str)=none:=zxd _ _ _ (by decide +kernel) (by decide +kernel) (by decide +kernel)
theorem znt(h:zcf K a vs H Q E):vs.length=3:=by
 obtain⟨_,_,_,_,rfl,_⟩:=h
 rfl
theorem zlw(h:zbc K a vs H Q E):vs.length=1:=by
 obtain⟨_,_,_,_,_,rfl,_⟩:=h
 rfl
theorem zm1(h:zb4 K a vs H Q E):vs.length=1:=by
 obtain⟨_,_,_,_,_,rfl,_⟩:=h
 rfl
theorem zgo(h:zat K a vs H Q E):vs.length=2:=by
 obtain⟨_,_,_,_,_,_,rfl,_⟩:=h
 rfl
theorem znu(h:zcg K a vs H Q E):vs.length=2:=by
 obtain⟨_,_,_,_,_,_,rfl,_⟩:=h
 rfl
theorem zds{f:Str}{v:V}{fs:List (Str × V)}{n:Nat}(h:fs.length<n):(putF f v fs).length<n+1:=Nat.lt_of_le_of_lt (zff f v fs) (Nat.succ_lt_succ h)
theorem SameBut.none{b:Addr}{H H1:Hp}{x:Addr}(s:SameBut (· =b) H H1)(hb:H1 b≠Option.none)(h:H1 x=Option.none):H x=Option.none:=by
  cases e:H x with
  | none=>rfl
  | some o =>
    have:x≠b:=λz=>hb (z ▸ h)
    rw[s _ _ e this]at h
    cases h
theorem zlx(h:zb6 K a vs H Q E):zen K a (λ_=>E) (ends Q) (zby ["self","place","value","needs"] vs) H:=by
 obtain⟨x,dx,pl,v,nt,rfl,T,hx,q⟩:=h
 push_cast[zen,↓zic,↓zid,↓zie]
 refine⟨_,_,_,hx,T.cc,T.nP,by decide,_,_,_,zac,T.cc,T.nV,zds (n:=999) (by decide),_,_,_,zac,T.cc,T.nN,zds (n:=999) (zds (n:=998) (by decide)),?_⟩
 rw[zzt,zf9,zf9]
 exact q
theorem zm2(h:zb6 K a vs H Q E):vs.length=4:=by
 obtain⟨_,_,_,_,_,rfl,_⟩:=h
 rfl
theorem znv(h:zch K a vs H Q E):zfr K a (λ_=>E) (ends Q) (zby ["self","plank"] vs) H:=by
 obtain⟨b,gp,cl,dx,w,rows,n,rfl,T,TP,P,hb,q⟩:=h
 push_cast[zfr,↓zkm,↓zkn,↓zko,↓zkp,↓zkq]
 refine⟨_,_,_,hb,T.cl,T.nG,by decide,by decide,?_⟩
 have e1:upd H b (.ins (bkC a) dx (putF "ground" (.ref gp) [])) b=some (.ins (bkC a) dx (putF "ground" (.ref gp) [])):=zac
 have s1:SameBut (· =b) H (upd H b (.ins (bkC a) dx (putF "ground" (.ref gp) []))):=λx o e n=>by rw[zah n];exact e
 revert e1 s1
 generalize upd H b (.ins (bkC a) dx (putF "ground" (.ref gp) []))=H1
 intro e1 s1 m hm
 have nbm:b≠m:=zak e1 hm
 have hmH:=s1.none (by rw[e1];intro z;cases z) hm
 refine⟨_,_,_,by rw[zah nbm];exact e1,T.cl,T.nM,zds (n:=999) (by decide),?_⟩
 have s2:SameBut (· =b) H (upd (upd H1 m (.lst [])) b (.ins (bkC a) dx (putF "made" (.ref m) (putF "ground" (.ref gp) [])))):=(s1.upd (.inr hmH)).upd (.inl rfl)
 have e2:upd (upd H1 m (.lst [])) b (.ins (bkC a) dx (putF "made" (.ref m) (putF "ground" (.ref gp) []))) b=some (.ins (bkC a) dx (putF "made" (.ref m) (putF "ground" (.ref gp) []))):=zac
 have m2:upd (upd H1 m (.lst [])) b (.ins (bkC a) dx (putF "made" (.ref m) (putF "ground" (.ref gp) []))) m=some (.lst []):=by rw[zah nbm.symm,zac]
 revert s2 e2 m2
 generalize upd (upd H1 m (.lst [])) b (.ins (bkC a) dx (putF "made" (.ref m) (putF "ground" (.ref gp) [])))=H2
 intro s2 e2 m2
 have gb:∀ x xs,(· =b) x->H x≠some (.tup xs):=λx xs e=>by rw[show x=b from e,hb];intro z;cases z
 have ncl:¬ cl=b:=by obtain⟨ts,z,_⟩:=P.ls;exact ze6 z hb (by intro z;cases z)
 have P2:PlankAt a H2 gp cl w rows n:=by
  obtain⟨⟨dx',f1⟩,⟨ts,f2,f3⟩,r1,r2,r3⟩:=P
  exact⟨⟨dx',s2 _ _ f1 (ze6 f1 hb (zs6 (by simp[pf])))⟩,⟨ts,s2 _ _ f2 (ze6 f2 hb (by intro z;cases z)),Paired.mapP f3 λt r z=>s2 _ _ z (ze6 z hb (by intro z;cases z))⟩,r1,r2,r3⟩
 obtain⟨dp,hp⟩:=P2.ob
 refine⟨_,_,hp,zxd _ _ _ (by decide +kernel) (by decide +kernel) (by decide +kernel),gp,cl,w,rows,n,rfl,TP,P2,rows.length,rfl,by omega,by have:=P.sz;omega,?_⟩
 rw[Int.toNat_natCast]
 refine zhm (small _ (by have:=P.sz;omega)) (λi ys H'=>Same H2 H'/\∃ ls:List Addr,ys=ls.map V.ref/\ls.Nodup/\∀ l∈ls,H' l=some (.lst [])/\H2 l=none) ⟨Same.refl _,[],rfl,List.nodup_nil,by simp⟩ (λi ys H' hi hl ⟨s,ls,ey,nd,al⟩=> ?_) (λys H' hl ⟨s,ls,ey,nd,al⟩ mi hmi=> ?_)
 ·push_cast[]
  refine⟨by decide,λl hl'=>⟨s.trans (zae hl'),ls++[l],by rw[ey,List.map_append];rfl,?_,λx hx=> ?_⟩⟩
  ·exact List.nodup_append.mpr ⟨nd,by simp,λx hx y hy e=>by rw[List.mem_singleton]at hy;subst hy;subst e;rw[(al _ hx).1]at hl';cases hl'⟩
  ·rcases List.mem_append.mp hx with hx | hx
   ·exact⟨zae hl' _ _ (al x hx).1,(al x hx).2⟩
   ·rw[List.mem_singleton.mp hx];exact⟨zac,s.free hl'⟩
 ·have s3:SameBut (· =b) H (upd H' mi (.lst ys)):=by
   intro x o e nx
   have e':=s _ _ (s2 _ _ e nx)
   rw[zah (zak e' hmi)];exact e'
  have e3:upd H' mi (.lst ys) b=some (.ins (bkC a) dx (putF "made" (.ref m) (putF "ground" (.ref gp) []))):=by rw[zah (zak (s _ _ e2) hmi)];exact s _ _ e2
  have m3:upd H' mi (.lst ys) m=some (.lst []):=by rw[zah (zak (s _ _ m2) hmi)];exact s _ _ m2
  have i3:upd H' mi (.lst ys) mi=some (.lst (ls.map V.ref)):=by rw[zac,ey]
  have l3:∀ l∈ls,upd H' mi (.lst ys) l=some (.lst [])/\H l=none/\l≠mi/\l≠m:=λl hl'=>by
   have z:=al l hl'
   have n1:=zak z.1 hmi
   exact⟨by rw[zah n1];exact z.1,s2.none (by rw[e2];intro z;cases z) z.2,n1,λy=>by rw[y,m2]at z;cases z.2⟩
  have hmiH:H mi=none:=s2.none (by rw[e2];intro z;cases z) (s.free hmi)
  have nmm:m≠mi:=zak (s _ _ m2) hmi
  have hlen:ls.length=rows.length:=by rw[<-hl,ey,List.length_map]
  revert s3 e3 m3 i3 l3
  generalize upd H' mi (.lst ys)=H3
  intro s3 e3 m3 i3 l3
  refine⟨_,_,_,e3,T.cl,T.nI,zds (n:=999) (zds (n:=998) (by decide)),λlt hlt=> ?_⟩
  have nb4:b≠lt:=zak zac hlt
  rw[zah nb4.symm]at hlt
  have ltH:H lt=none:=s3.none (by rw[e3];intro z;cases z) hlt
  refine⟨_,_,_,by rw[zah nb4,zac],T.cl,T.nL,zds (n:=999) (zds (n:=998) (zds (n:=997) (by decide))),λou hou=> ?_⟩
  have nb5:b≠ou:=zak zac hou
  rw[zah nb5.symm]at hou
  have nl5:lt≠ou:=zak zac hou
  rw[zah nl5.symm,zah nb5.symm]at hou
  have ouH:H ou=none:=s3.none (by rw[e3];intro z;cases z) hou
  refine⟨_,_,_,by rw[zah nb5,zac],T.cl,T.nO,zds (n:=999) (zds (n:=998) (zds (n:=997) (zds (n:=996) (by decide)))),?_⟩
  rw[zab2]
  generalize eH:upd (upd (upd (upd (upd H3 b _) lt (.dT [])) b _) ou (.dK [])) b (.ins (bkC a) dx (bf gp m mi lt ou))=H5
  have kp:∀ x,x≠b->x≠lt->x≠ou->H5 x=H3 x:=λx n1 n2 n3=>by rw[<-eH,zah n1,zah n3,zah n1,zah n2,zah n1]
  have kk:∀ x o,H3 x=some o->x≠b->H5 x=some o:=λx o e n1=>by rw[kp x n1 (zak e hlt) (zak e hou)];exact e
  have s5:SameBut (· =b) H H5:=λx o e n1=>kk x o (s3 _ _ e n1) n1
  have nbx:∀ x xs,H3 x=some (.lst xs)->x≠b:=λx xs e=>ze6 e e3 (by intro z;cases z)
  refine q m mi lt ou ls H5 hmH hmiH ltH ouH (λl hl'=>(l3 l hl').2.1) ⟨⟨⟨dx,by rw[<-eH,zac]⟩,⟨[],kk _ _ m3 (nbx _ _ m3),.nil⟩,kk _ _ i3 (nbx _ _ i3),λi l e=> ?_,nd,⟨[],?_,λi j=>rfl,Nat.le_refl _⟩,⟨[],?_,λk=>rfl,List.nodup_nil,by simp⟩,by simp,by simp,by simp,⟨nmm,?_,?_,?_,?_,?_⟩,by simp⟩,?_,hlen⟩ s5
  ·have z:=l3 l (List.mem_of_getElem? e)
   exact kk _ _ z.1 (nbx _ _ z.1)
  ·rw[<-eH,zah nb4.symm,zah nl5,zah nb4.symm,zac]
  ·rw[<-eH,zah nb5.symm,zac]
  ·exact λz=>(l3 _ z).2.2.2 rfl
  ·exact λz=>(l3 _ z).2.2.1 rfl
  ·obtain⟨ts,z,_⟩:=P.ls;exact zak z hmH
  ·obtain⟨ts,z,_⟩:=P.ls;exact zak z hmiH
  ·obtain⟨ts,z,_⟩:=P.ls;exact λy=>by rw[(l3 _ y).2.1]at z;cases z
  ·obtain⟨⟨dx',f1⟩,⟨ts,f2,f3⟩,r1,r2,r3⟩:=P
   exact⟨⟨dx',s5 _ _ f1 (ze6 f1 hb (zs6 (by simp[pf])))⟩,⟨ts,s5 _ _ f2 (ze6 f2 hb (by intro z;cases z)),Paired.mapP f3 λt r z=>s5 _ _ z (ze6 z hb (by intro z;cases z))⟩,r1,r2,r3⟩
theorem zpj(h:zch K a vs H Q E):vs.length=2:=by
 obtain⟨_,_,_,_,_,_,_,rfl,_⟩:=h
 rfl
theorem zm3(h:zci K a vs H Q E):zd9 K a (λ_=>E) (ends Q) (zby ["needs","ahead"] vs) H:=by
  obtain⟨nl,ns,o,rfl,hs,hl,q⟩:=h
  cases o with
  | none =>
    push_cast[zd9,↓zfo,↓zfp,↓zfq,optV]
    refine⟨ns,hs,by omega,λx o D ks hx hD r m l=>⟨_,.inl ⟨SqL.of zac,λt ht=>q t ks _ (((zae hx).trans (zae hD)).trans (zae ht)) zac r (λy=> ?_) (by omega)⟩⟩⟩
    rw[m y];simp
  | some k =>
    push_cast[zd9,↓zfo,↓zfp,↓zfq,optV]
    refine⟨_,.inl hs,λl hl'=>⟨by decide,λp hp=>.inl ?_⟩⟩
    have np:l≠p:=zak zac hp
    have s0:Same H (upd (upd H l (.lst (ns.map V.int))) p (.lst [.int k])):=(zae hl').trans (zae hp)
    have e1:upd (upd H l (.lst (ns.map V.int))) p (.lst [.int k]) l=some (.lst (ns.map V.int)):=by rw[zah np,zac]
    have e2:upd (upd H l (.lst (ns.map V.int))) p (.lst [.int k]) p=some (.lst [.int k]):=zac
    revert s0 e1 e2
    generalize upd (upd H l (.lst (ns.map V.int))) p (.lst [.int k])=H1
    intro s0 e1 e2
    refine⟨l,p,_,_,rfl,rfl,e1,e2,small _ (by simp;omega),λr hr=>⟨r,rfl,ns++[(k:Int)],?_,by simp;omega,λx o D ks hx hD rs m ll=>⟨_,.inl ⟨SqL.of zac,λt ht=>q t ks _ ((((s0.trans (zae hr)).trans (zae hx)).trans (zae hD)).trans (zae ht)) zac rs (λy=> ?_) (by simpa using ll)⟩⟩⟩⟩
    ·rw[List.map_append];exact SqL.of zac
    ·rw[m y,List.mem_append,List.mem_singleton];simp
theorem znw(h:zci K a vs H Q E):vs.length=2:=by
 obtain⟨_,_,_,rfl,_⟩:=h
 rfl
theorem zgp (h:za2 K a vs H Q E):zcl K a (λ_=>E) (ends Q) (zby ["self","place"] vs) H:=by
  obtain⟨A,w,rows,n,cs,outs,pl,i,j,rfl,T,TP,B,hp,q,qe⟩:=h
  obtain⟨dx,hb⟩:=B.bk.ob
  obtain⟨dp,hg⟩:=B.pk.ob
  have ng:∀ {m:Str},¬ m="contents"->¬ m="width"->¬ m="written"->(pf A.cl w n).lookup m=none:=λh1 h2 h3=>zxd _ _ _ h1 h2 h3
  push_cast[zcl,↓zfk,↓zfl]
  refine zh5 hp (n:=0) rfl rfl ?_
  push_cast[]
  split
  · rename_i h0
    refine⟨_,_,_,hb,T.cl,T.nG,_,bf_g,A.gp,rfl,_,_,hg,ng (by decide +kernel) (by decide +kernel) (by decide +kernel),A.gp,A.cl,w,rows,n,rfl,TP,B.pk,?_⟩
    push_cast[]
    split
    ·exact⟨by decide,qe λz=>by omega⟩
    · rename_i h1
      refine zh5 hp (n:=1) rfl rfl ?_
      push_cast[]
      split
      · rename_i h2
        refine⟨_,_,_,hb,T.cl,T.nG,_,bf_g,A.gp,rfl,_,_,hg,ng (by decide +kernel) (by decide +kernel) (by decide +kernel),A.gp,A.cl,w,rows,n,rfl,TP,B.pk,?_⟩
        push_cast[]
        split
        ·exact⟨by decide,qe λz=>by omega⟩
        ·exact q ⟨h0,by omega,h2,by omega⟩
      ·exact⟨by decide,qe λz=>by omega⟩
  ·exact⟨by decide,qe λz=>by omega⟩
theorem zgv(h:za2 K a vs H Q E):vs.length=2:=by
 obtain⟨_,_,_,_,_,_,_,_,_,rfl,_⟩:=h
 rfl
theorem zly(h:zbl K a vs H Q E):zes K a (λ_=>E) (ends Q) (zby ["self","place"] vs) H:=by
 obtain⟨A,w,rows,n,cs,outs,pl,i,j,rfl,T,TP,B,hp,q,qe⟩:=h
 obtain⟨dx,hb⟩:=B.bk.ob
 obtain⟨kvs,hl,hv,_⟩:=B.bk.lat
 push_cast[zes,↓ziq,↓zir]
 refine⟨_,_,hb,zhr (by decide +kernel),A,w,rows,n,cs,outs,pl,i,j,rfl,T,TP,B,hp,λh=> ?_,qe⟩
 push_cast[]
 refine⟨_,_,_,hb,T.cl,T.nL,_,bf_l,A.lt,rfl,.inr ⟨_,.inl hl⟩,_,dT2 hl hp,?_⟩
 rw[hv]
 have:=q h
 cases e:zbs cs i j with
 | none=>rw[e]at this;exact this
 | some k=>rw[e]at this;exact this
theorem zm4(h:zbl K a vs H Q E):vs.length=2:=by
 obtain⟨_,_,_,_,_,_,_,_,_,rfl,_⟩:=h
 rfl
theorem BookIn.len{C D:Addr}{A:BA}{w:Nat}{cs:List Ch}{outs:Int->Bool}(B:BookIn C D H A w cs outs):∃ xs,H A.m=some (.lst xs)/\xs.length=cs.length:=by
 obtain⟨chs,e,p⟩:=B.made
 exact⟨_,e,by rw[List.length_map,p.length]⟩
theorem zfy (h:zan K a vs H Q E):zb2 K a (λ_=>E) (ends Q) (zby ["self","numbers","number"] vs) H:=by
  obtain⟨A,w,rows,n,cs,outs,nl,ns,rfl,T,B,hs,q,qe⟩:=h
  obtain⟨dx,hb⟩:=B.bk.ob
  obtain⟨xs,hm,hml⟩:=B.bk.len
  push_cast[zb2,↓zdb,↓zdc,↓zdd]
  refine .inl ⟨⟨_,hs⟩,?_⟩
  refine zqp (xs:=ns.map V.int) (λi σ H'=>H'=H/\(∃ z,σ=[some (.ref A.b),some (.ref nl),z])/\∀ x∈ns.take i,known cs x) ⟨rfl,⟨_,rfl⟩,by simp⟩ (λi σ H' _ ⟨e,_⟩=>e ▸ hs) (λi x σ H' hx ⟨e,⟨z,ez⟩,kn⟩=> ?_) (λσ H' ⟨e,⟨z,ez⟩,kn⟩=> ?_)
  · subst e;subst ez
    rw[List.getElem?_map,Option.map_eq_some_iff]at hx
    obtain⟨x',hx',rfl⟩:=hx
    push_cast[↓zdb,↓zdc,↓zdd]
    have bad:¬ known cs x'->1<=sizeLine/\E (.ref (a "NoChange")) none H':=λh=>⟨by decide,qe ⟨x',List.mem_of_getElem? hx',h⟩⟩
    split
    · rename_i h0
      refine⟨_,_,_,hb,T.cl,T.nM,_,bf_m,cs.length,.inl ⟨_,SqL.of hm,hml.symm⟩,?_⟩
      split
      ·exact bad λz=>by omega
      · intro y hy
        rw[List.take_add_one,hx']at hy
        rcases List.mem_append.mp hy with hy | hy
        ·exact kn y hy
        · simp only[Option.toList_some,List.mem_singleton]at hy
          subst hy
          exact⟨h0,by omega⟩
    ·exact bad λz=>by omega
  · subst e
    refine q λx hx=>kn x ?_
    rw[List.length_map,List.take_length];exact hx
theorem zf8(h:zan K a vs H Q E):vs.length=2:=by
 obtain⟨_,_,_,_,_,_,_,_,rfl,_⟩:=h
 rfl
theorem zlz (h:za6 K a vs H Q E):zet K a (λ_=>E) (ends Q) (zby ["self","place","value","needs","ahead","number"] vs) H:=by
  obtain⟨A,w,rows,n,cs,outs,pl,nl,v,ns,i,j,rfl,T,TP,B,hp,hs,hl,hc,q,q1,q2⟩:=h
  obtain⟨dx,hb⟩:=B.bk.ob
  obtain⟨xs,hm,hml⟩:=B.bk.len
  push_cast[zet,↓zis,↓zit,↓ziu,↓ziv,↓ziw,↓zix,↓ziy]
  refine⟨_,_,hb,zhr (by decide +kernel),A,w,rows,n,cs,outs,pl,i,j,rfl,T,TP,B,hp,λhon=> ?_,q1⟩
  push_cast[]
  refine⟨_,_,hb,zhr (by decide +kernel),A,w,rows,n,cs,outs,nl,ns,rfl,T,B,hs,λhkn=> ?_,q2 hon⟩
  push_cast[]
  refine⟨_,_,_,hb,T.cl,T.nM,_,bf_m,cs.length,.inl ⟨_,SqL.of hm,hml.symm⟩,?_⟩
  refine⟨_,_,_,hb,T.cl,T.nM,_,bf_m,.inl ⟨rfl,_,SqL.of hm⟩,nl,ns,zbs cs i j,rfl,hs,hl,λt ks H1 s1 et kr km kl=> ?_⟩
  push_cast[]
  intro x dy hx hdy ndy
  refine⟨x,dy,pl,v,t,rfl,T,zac,rfl,?_⟩
  rw[zf9]
  have s2:Same H1 (upd (upd H1 dy (.own x)) x (.ins (a "Change") dy (chf pl v t))):=(zae hdy).trans (zae (by rw[zah ndy.symm];exact hx))
  have ex:upd (upd H1 dy (.own x)) x (.ins (a "Change") dy (chf pl v t)) x=some (.ins (a "Change") dy (chf pl v t)):=zac
  revert s2 ex
  generalize upd (upd H1 dy (.own x)) x (.ins (a "Change") dy (chf pl v t))=H2
  intro s2 ex
  have s:=s1.trans s2
  have hxH:H x=none:=s1.free hx
  replace et:=s2 _ _ et
  obtain⟨chs,hm',pch⟩:=B.bk.made
  have hmi:=B.bk.mil
  obtain⟨kvs,hlt,hv,hkl⟩:=B.bk.lat
  obtain⟨kvo,hou,hvo,hko⟩:=B.bk.out
  obtain⟨i0,i1,j0,j1⟩:=hon
  obtain⟨i',rfl⟩:∃ i':Nat,i=i':=⟨i.toNat,by omega⟩
  obtain⟨j',rfl⟩:∃ j':Nat,j=j':=⟨j.toNat,by omega⟩
  have hil:i'<A.ls.length:=by rw[B.nb];omega
  have el:=List.getElem?_eq_getElem hil
  have hll:=B.bk.mic i' _ el
  have hmem:A.ls[i']∈A.ls:=List.getElem_mem hil
  revert el hll hmem
  generalize A.ls[i']=l
  intro el hll hmem
  have ap:=B.bk.ap
  have nml:A.m≠l:=λz=>ap.2.1 (z ▸ hmem)
  have nil':A.mi≠l:=λz=>ap.2.2.1 (z ▸ hmem)
  have ncl:A.cl≠l:=λz=>ap.2.2.2.2.2 (z ▸ hmem)
  have klt:∀ {y:Addr} {o:HO},H2 y=some o->(∀ k,o≠.dT k)->y≠A.lt:=λe h=>ze6 e (s _ _ hlt) (h _)
  have km':∀ {y:Addr} {o:HO},H2 y=some o->(∀ k,o≠.lst k)->y≠A.m:=λe h=>ze6 e (s _ _ hm') (h _)
  have kll:∀ {y:Addr} {o:HO},H2 y=some o->(∀ k,o≠.lst k)->y≠l:=λe h=>ze6 e (s _ _ hll) (h _)
  have hb2:=s _ _ hb
  have hp2:=s _ _ hp
  have sz:=B.bk.sz
  have lenc:chs.length=cs.length:=pch.length
  refine⟨A.m,_,_,rfl,rfl,s _ _ hm',Nat.lt_of_lt_of_le (show(chs.map V.ref).length<1000 by rw[List.length_map];omega) (by decide),?_⟩
  have bb:A.b≠A.m:=km' hb2 (by intro k z;cases z)
  have bl:A.b≠l:=kll hb2 (by intro k z;cases z)
  have bt:A.b≠A.lt:=klt hb2 (by intro k z;cases z)
  have pm:pl≠A.m:=km' hp2 (by intro k z;cases z)
  have pl':pl≠l:=kll hp2 (by intro k z;cases z)
  have pt:pl≠A.lt:=klt hp2 (by intro k z;cases z)
  have lt':l≠A.lt:=klt (s _ _ hll) (by intro k z;cases z)
  have mt:A.m≠A.lt:=klt (s _ _ hm') (by intro k z;cases z)
  have it:A.mi≠A.lt:=klt (s _ _ hmi) (by intro k z;cases z)
  refine⟨_,_,_,by rw[zah bb];exact hb2,T.cl,T.nI,_,bf_i,zh5 (by rw[zah pm];exact hp2) (n:=0) rfl rfl (zqq (SqL.of (by rw[zah ap.1.symm];exact s _ _ hmi)) (n:=i') (v:=.ref l) rfl (by rw[List.getElem?_map,el];rfl) ⟨.inl ⟨rfl,_,SqL.of (by rw[zah nml.symm];exact s _ _ hll)⟩,?_⟩)⟩
  have bln:=zvo cs i'
  refine⟨l,_,_,rfl,rfl,by rw[zah nml.symm];exact s _ _ hll,Nat.lt_of_lt_of_le (show((zsb cs i').map λ(k:Nat)=>V.int k).length<1000 by rw[List.length_map];omega) (by decide),?_⟩
  refine⟨_,_,_,by rw[zah bl,zah bb];exact hb2,T.cl,T.nL,_,bf_l,A.lt,rfl,_,pT2 (by rw[zah lt'.symm,zah mt.symm];exact s _ _ hlt) (by rw[zah pl',zah pm];exact hp2) (by omega),?_⟩
  generalize eH:upd (upd (upd H2 A.m _) l _) A.lt (.dT (putK kvs [.inl ↑i',.inl ↑j'] (.int ↑cs.length)))=H5
  have kp:∀ y,y≠A.m->y≠l->y≠A.lt->H5 y=H2 y:=λy n1 n2 n3=>by rw[<-eH,zah n3,zah n2,zah n1]
  have s5:SameBut (λy=>y=A.m\/y=l\/y=A.lt) H H5:=λy o e ny=>by
    rw[kp y (λz=>ny (.inl z)) (λz=>ny (.inr (.inl z))) (λz=>ny (.inr (.inr z)))]
    exact s _ _ e
  have lo:∀ y,(y=A.m\/y=l\/y=A.lt)->zlj (H y):=by
    rintro y (z | z | z)
    ·exact B.loose (.inl z)
    ·exact B.loose (.inr (.inr (.inl (z ▸ hmem))))
    ·exact B.loose (.inr (.inr (.inr (.inl z))))
  have hnd:∀ y∈ks,0<=y/\y<cs.length:=λy hy=>by
    rcases(km y).mp hy with h | ⟨k,e,rfl⟩
    ·exact hkn y h
    ·exact⟨by omega,by have:=zgg e;omega⟩
  refine q ⟨i0,i1,j0,j1⟩ hkn ks H5 kr km ⟨⟨⟨dx,by rw[kp _ bb bl bt];exact hb2⟩,⟨chs++[x],?_,Paired.snoc (Paired.mapP pch λy c h=>h.sb s5 lo) ⟨dy,pl,t,?_,?_,?_⟩⟩,?_,λk l' e=> ?_,B.bk.nd,⟨putK kvs [.inl ↑i',.inl ↑j'] (.int ↑cs.length),?_,λp q=> ?_,?_⟩,⟨kvo,?_,hvo,?_⟩,?_,λc hc'=> ?_,λk c e=> ?_,ap,λk c e j ej=> ?_⟩,B.pk.sbL s5 lo ?_,B.nb⟩ (s5.wide λy z=> ?_)
  ·rw[<-eH,zah mt,zah nml,zac,List.map_append];rfl
  ·rw[kp x (km' ex (by intro k z;cases z)) (kll ex (by intro k z;cases z)) (klt ex (by intro k z;cases z))];exact ex
  ·rw[kp pl pm pl' pt];exact hp2
  ·rw[kp t (km' et (by intro k z;cases z)) (kll et (by intro k z;cases z)) (klt et (by intro k z;cases z))];exact et
  ·rw[kp _ ap.1.symm nil' it];exact s _ _ hmi
  · rw [zt1]
    by_cases z:l'=l
    · subst z
      have ek:k=i':=by
        obtain⟨h1,h2⟩:=List.getElem?_eq_some_iff.mp e
        obtain⟨h3,h4⟩:=List.getElem?_eq_some_iff.mp el
        exact(List.getElem_inj B.bk.nd).mp (h2.trans h4.symm)
      subst ek
      rw[<-eH,zah lt',zac]
      simp
    · have nk:¬ i'=k:=λy=>by subst y;rw[el]at e;cases e;exact z rfl
      have hl':=B.bk.mic k l' e
      rw[kp l' (λy=>ap.2.1 (y ▸ List.mem_of_getElem? e)) z (klt (s _ _ hl') (by intro k z;cases z))]
      simp only[Int.toNat_natCast,if_neg nk]
      exact s _ _ hl'
  ·rw[<-eH,zac]
  · rw[zwc,zd8]
    by_cases z:p=i'/\q=j'
    · obtain⟨rfl,rfl⟩:=z
      simp
    · have z1:¬ ([Sum.inl p,Sum.inl q]:List Key)=[.inl ↑i',.inl ↑j']:=λy=>z (by simpa using y)
      have z2:¬ ((((i':Int).toNat:Nat):Int)=p/\(((j':Int).toNat:Nat):Int)=q):=λy=>z ⟨by omega,by omega⟩
      rw[if_neg z1,if_neg z2]
      exact hv p q
  · have:=zh8 kvs [.inl ↑i',.inl ↑j'] (.int ↑cs.length)
    simp;omega
  ·rw[kp _ (km' (s _ _ hou) (by intro k z;cases z)) (kll (s _ _ hou) (by intro k z;cases z)) (klt (s _ _ hou) (by intro k z;cases z))];exact s _ _ hou
  ·exact hko.mono (by simp)
  ·simp;omega
  · rcases List.mem_append.mp hc' with h | h
    ·exact B.bk.inn c h
    · rw[List.mem_singleton.mp h]
      exact⟨by rw[Int.toNat_natCast];exact hil,(show(j':Int).toNat<w by omega)⟩
  · rcases Nat.lt_or_ge k cs.length with h | h
    · rw[List.getElem?_append_left h]at e
      exact B.bk.need k c e
    · rw[List.getElem?_append_right h]at e
      have:k - cs.length=0:=by
        rcases Nat.eq_zero_or_pos (k - cs.length)with z | z
        ·exact z
        ·rw[List.getElem?_eq_none (by simp;omega)]at e;cases e
      rw[this]at e
      cases e
      exact⟨λy hy=>⟨(hnd y hy).1,by have:=(hnd y hy).2;omega⟩,kr,(show ks.length<=100 by omega)⟩
  · rcases Nat.lt_or_ge k cs.length with h | h
    · rw[List.getElem?_append_left h]at e
      rw[List.take_append_of_le_length (by omega)]at ej
      exact B.bk.chn k c e j ej
    · rw[List.getElem?_append_right h]at e
      have:k - cs.length=0:=by
        rcases Nat.eq_zero_or_pos (k - cs.length)with z | z
        ·exact z
        ·rw[List.getElem?_eq_none (by simp;omega)]at e;cases e
      have hk:k=cs.length:=by omega
      subst hk
      rw[this]at e
      cases e
      rw[List.take_left' rfl]at ej
      exact(km _).mpr (.inr ⟨j,by simpa using ej,rfl⟩)
  · rintro (z | z | z)
    ·exact ap.2.2.2.1 z
    ·exact ncl z
    · obtain⟨ts,e,_⟩:=B.pk.ls
      exact klt (s _ _ e) (by intro k z;cases z) z
  · rcases z with z | z | z
    ·exact .inl z
    ·exact .inr (.inr (.inl (z ▸ hmem)))
    ·exact .inr (.inr (.inr (.inl z)))
theorem zm5(h:za6 K a vs H Q E):vs.length=4:=by
 obtain⟨_,_,_,_,_,_,_,_,_,_,_,_,rfl,_⟩:=h
 rfl
theorem BookIn.at{C D:Addr}{A:BA}{w:Nat}{cs:List Ch}{outs:Int->Bool}{H:Hp}(B:BookIn C D H A w cs outs){k:Nat}{c:Ch}(e:cs[k]? =some c):∃ xs x,H A.m=some (.lst xs)/\xs[k]? =some (.ref x)/\ChAt D H x c:=by
 obtain⟨chs,h,p⟩:=B.made
 obtain⟨x,ex,hx⟩:=zjp p e
 exact⟨_,x,h,by rw[List.getElem?_map,ex];rfl,hx⟩
theorem zxg{w n:Nat}{rows:List (List V)}{gp cl:Addr}{H1:Hp}{Q:Addr->Hp->Prop}{E:XK}(T:TB K a)(TP:zey K a)(P:PlankAt a H1 gp cl w rows n)
  (q:∀ (A:BA) (H2:Hp),A.gp=gp->A.cl=cl->(∀ x o,H1 x=some o->x=cl\/¬ A.F x)->BkAt a H2 A w rows n [] (λ_=>false)->Same H1 H2->Q A.b H2) :
  ∀ x dx,H1 x=none->H1 dx=none->dx≠x->zch K a [.ref x,.ref gp] (upd (upd H1 dx (.own x)) x (.ins (bkC a) dx [])) (λv H2=>v=.non/\Q x H2) E:=λb db hb hdb ndb=>by
 have s0:Same H1 (upd (upd H1 db (.own b)) b (.ins (bkC a) db [])):=(zae hdb).trans (zae (by rw[zah ndb.symm];exact hb))
 refine⟨b,gp,cl,db,w,rows,n,rfl,T,TP,P.same s0,zac,λm mi lt ou ls H4 hm hmi hlt hou hls B4 sb4=>⟨rfl,?_⟩⟩
 refine q ⟨b,gp,m,mi,lt,ou,ls,cl⟩ H4 rfl rfl (λx o e=> ?_) B4 λy o e=>sb4 _ _ (s0 _ _ e) (zak e hb)
 by_cases z:x=cl
 ·exact .inl z
 ·refine .inr ?_
  have e':=s0 _ _ e
  rintro (y | y | y | y | y | y)
  ·rw[y]at e';rw[show(BA.mk b gp m mi lt ou ls cl).m=m from rfl,hm]at e';cases e'
  ·rw[y]at e';rw[show(BA.mk b gp m mi lt ou ls cl).mi=mi from rfl,hmi]at e';cases e'
  ·rw[hls x y]at e';cases e'
  ·rw[y]at e';rw[show(BA.mk b gp m mi lt ou ls cl).lt=lt from rfl,hlt]at e';cases e'
  ·rw[y]at e';rw[show(BA.mk b gp m mi lt ou ls cl).ou=ou from rfl,hou]at e';cases e'
  ·exact z y
theorem zkw(h:zay K a vs H Q E):zec K a (λ_=>E) (ends Q) (zby ["self","place","number"] vs) H:=by
  obtain⟨A,w,rows,n,cs,outs,pl,i,j,rfl,T,TP,B,hp,q,qe⟩:=h
  obtain⟨dx,hb⟩:=B.bk.ob
  obtain⟨dp,hg⟩:=B.pk.ob
  push_cast[zec,↓zhu,↓zhv,↓zhw,↓zhx]
  refine⟨_,_,hb,zhr (by decide +kernel),A,w,rows,n,cs,outs,pl,i,j,rfl,T,TP,B,hp,λh=> ?_,qe⟩
  have q:=q h
  unfold zda at q
  cases e:zbs cs i j with
  | none =>
    rw[e]at q
    push_cast[optV]
    refine⟨_,_,_,hb,T.cl,T.nG,_,bf_g,A.gp,rfl,_,_,hg,zzw _ _ _,zh5 hp (n:=0) rfl rfl ?_⟩
    refine⟨A.gp,A.cl,w,rows,n,i,rfl,TP,B.pk,λb' row eb er vl hvl=> ?_,λz=>absurd h λy=>by omega⟩
    subst eb
    have s1:=zae (o:=.lst row) hvl
    refine zh5 (s1 _ _ hp) (n:=1) rfl rfl ?_
    have rl:=B.pk.wd row (List.mem_of_getElem? er)
    have hj:j.toNat<row.length:=by omega
    have ej:=List.getElem?_eq_getElem hj
    refine zqq (SqL.of zac) (n:=j.toNat) (v:=row[j.toNat]) (by omega) ej ?_
    refine q _ _ ?_ s1
    rw[show((b':Int)).toNat=b' from by omega,er]
    exact ej
  | some k =>
    rw[e]at q
    push_cast[optV]
    have hk:=zgg e
    have ec:=List.getElem?_eq_getElem hk
    obtain⟨chs,hm,pc⟩:=B.bk.made
    obtain⟨x,ex,dx',p1,n1,h1,h2,h3⟩:=zjp pc ec
    refine⟨_,_,_,hb,T.cl,T.nM,_,bf_m,zqq (SqL.of hm) (n:=k) (v:=.ref x) rfl (by rw[List.getElem?_map,ex];rfl) ⟨x,rfl,_,_,_,h1,T.cc,T.nV,_,zac6,q _ _ ?_ (Same.refl _)⟩⟩
    show(cs[k]?).map (·.val)=_
    rw[ec]
    rfl
theorem zl0(h:zay K a vs H Q E):vs.length=2:=by
 obtain⟨_,_,_,_,_,_,_,_,_,rfl,_⟩:=h
 rfl
theorem zl1(h:zbd K a vs H Q E):zer K a (λ_=>E) (ends Q) (zby ["self","number"] vs) H:=by
 obtain⟨A,w,rows,n,cs,outs,x,rfl,T,B,q,qe⟩:=h
 obtain⟨dx,hb⟩:=B.bk.ob
 push_cast[zer,↓zin,↓zio]
 refine⟨_,_,hb,zhr (by decide +kernel),by decide,λl hl=> ?_⟩
 have s1:=zae (o:=.lst [.int x]) hl
 refine⟨A,w,rows,n,cs,outs,l,[x],rfl,T,B.same s1,SqL.of zac,λkn=> ?_,λ⟨y,hy,hn⟩=> ?_⟩
 ·have hk:=kn x (List.mem_singleton.mpr rfl)
  obtain⟨k,rfl⟩:∃ k:Nat,x=k:=⟨x.toNat,by omega⟩
  have hkl:k<cs.length:=by have:=hk.2;omega
  have ec:=List.getElem?_eq_getElem hkl
  obtain⟨xs,p,e1,e2,dx2,pl,nt,c1,c2,c3⟩:=B.bk.at ec
  push_cast[]
  refine⟨_,_,_,s1 _ _ hb,T.cl,T.nM,_,bf_m,zqq (SqL.of (s1 _ _ e1)) rfl e2 ?_⟩
  push_cast[]
  refine⟨_,_,_,s1 _ _ c1,T.cc,T.nN,_,zac7,nt,_,rfl,.inr (SqT.of (s1 _ _ c3)),λr hr=> ?_⟩
  exact q k _ r _ rfl ec (s1.free hr) (s1.trans (zae hr)) zac
 ·rw[List.mem_singleton.mp hy]at hn
  exact qe hn _ s1
theorem zm6(h:zbd K a vs H Q E):vs.length=2:=by
 obtain⟨_,_,_,_,_,_,_,rfl,_⟩:=h
 rfl
theorem zl2(h:zb5 K a vs H Q E):zep K a (λ_=>E) (ends Q) (zby ["self","names","records","pieces","cells"] vs) H:=by
 obtain⟨p,dx,n,r,c,w,rfl,T,hp,b1,b2,b3,b4,b5,q⟩:=h
 push_cast[zep,↓zig,↓zih,↓zii,↓zij]
 refine⟨_,_,_,hp,T.cl,T.n1,by decide,_,_,_,zac,T.cl,T.n2,zbr (by decide),_,_,_,zac,T.cl,T.n3,zbr (n:=1000) (Nat.succ_lt_succ (zbr (n:=999) (by decide))),_,_,_,zac,T.cl,T.n4,?_,?_⟩
 ·exact zbr (n:=1000) (Nat.succ_lt_succ (zbr (n:=999) (Nat.succ_lt_succ (zbr (n:=998) (by decide)))))
 ·rw[zab4,zf9,zf9,zf9]
  exact q _ ⟨⟨dx,zac⟩,b1,b2,b3,b4,b5⟩ λb o e hb=>by rw[zah hb];exact e
theorem zgw(h:zam K a vs H Q E):zcs K a (λ_=>E) (ends Q) (zby ["self","block","k"] vs) H:=by
 obtain⟨p,n,r,c,w,k,b,rfl,T,L,q⟩:=h
 obtain⟨dx,e⟩:=L.ob
 have:=L.h1
 have:=L.hw
 push_cast[zcs,↓zfx]
 refine⟨_,_,_,e,T.cl,T.n4,_,lf_w,?_⟩
 push_cast[]
 refine⟨⟨by omega,by omega⟩,_,_,_,e,T.cl,T.n4,_,lf_w,?_⟩
 push_cast[]
 exact⟨by omega,by decide,q⟩
theorem zjb(h:zap K a vs H Q E):zdp K a (λ_=>E) (ends Q) (zby ["self","k"] vs) H:=by
 obtain⟨p,n,r,c,w,k,rfl,T,L,q⟩:=h
 obtain⟨dx,e⟩:=L.ob
 push_cast[zdp,↓zgu]
 exact⟨_,_,e,zgh (by decide +kernel),p,n,r,c,w,k,0,rfl,T,L,q⟩
theorem zhc(h:zaz K a vs H Q E):zcy K a (λ_=>E) (ends Q) (zby ["self","k"] vs) H:=by
 obtain⟨p,n,r,c,w,k,rfl,T,L,q⟩:=h
 obtain⟨dx,e⟩:=L.ob
 push_cast[zcy,↓zf5]
 exact⟨_,_,e,zgh (by decide +kernel),_,_,_,e,T.cl,T.n1,_,lf_n,p,n,r,c,w,k,_,rfl,T,L,q⟩
theorem zgq(h:zal K a vs H Q E):zcm K a (λ_=>E) (ends Q) (zby ["self","k"] vs) H:=by
 obtain⟨p,n,r,c,w,k,rfl,T,L,q⟩:=h
 obtain⟨dx,e⟩:=L.ob
 push_cast[zcm,↓zfm]
 exact⟨_,_,e,zgh (by decide +kernel),_,_,e,zgh (by decide +kernel),p,n,r,c,w,rfl,T,L,p,n,r,c,w,k,_,rfl,T,L,q⟩
theorem zed(h:zag K a vs H Q E):za7 K a (λ_=>E) (ends Q) (zby ["self"] vs) H:=by
 obtain⟨p,n,r,c,w,rfl,T,L,q⟩:=h
 obtain⟨dx,e⟩:=L.ob
 push_cast[za7,↓zdv]
 refine⟨_,_,_,e,T.cl,T.n1,_,lf_n,_,_,_,e,T.cl,T.n2,_,lf_r,?_⟩
 push_cast[]
 refine⟨_,_,_,e,T.cl,T.n3,_,lf_c,?_⟩
 push_cast[]
 exact q
theorem zj8(h:zbn K a vs H Q E):zdy K a (λ_=>E) (ends Q) (zby ["self"] vs) H:=by
 obtain⟨p,n,r,c,w,rfl,T,L,q⟩:=h
 obtain⟨dx,e⟩:=L.ob
 push_cast[zdy,↓zg7]
 refine⟨_,_,e,zgh (by decide +kernel),p,n,r,c,w,rfl,T,L,_,_,_,e,T.cl,T.n2,_,lf_r,?_⟩
 push_cast[]
 refine⟨_,_,_,e,T.cl,T.n3,_,lf_c,?_⟩
 push_cast[]
 exact q
theorem zj9(h:za1 K a vs H Q E):zdx K a (λ_=>E) (ends Q) (zby ["self"] vs) H:=by
 obtain⟨p,n,r,c,w,rfl,T,L,q⟩:=h
 obtain⟨dx,e⟩:=L.ob
 obtain⟨_,b1,b2,b3,b4,b5⟩:=L
 push_cast[zdx,↓zg6]
 refine⟨_,_,_,e,T.cl,T.n1,_,lf_n,_,_,_,e,T.cl,T.n4,_,lf_w,?_⟩
 push_cast[]
 refine⟨.inl ⟨by omega,by omega⟩,_,_,_,e,T.cl,T.n2,_,lf_r,_,_,_,e,T.cl,T.n4,_,lf_w,?_⟩
 push_cast[]
 refine⟨.inl ⟨by omega,by omega⟩,_,_,_,e,T.cl,T.n3,_,lf_c,_,_,_,e,T.cl,T.n4,_,lf_w,?_⟩
 push_cast[]
 exact⟨.inl ⟨by omega,by omega⟩,by decide,q⟩
theorem zkx(h:zbv K a vs H Q E):zeb K a (λ_=>E) (ends Q) (zby ["self"] vs) H:=by
 obtain⟨p,n,r,c,w,rfl,T,TP,L,q⟩:=h
 obtain⟨dx,e⟩:=L.ob
 have LL:=L
 obtain⟨_,b1,b2,b3,b4,b5⟩:=L
 push_cast[zeb,↓zht]
 refine⟨_,_,e,zgh (by decide +kernel),p,n,r,c,w,rfl,T,LL,_,_,_,e,T.cl,T.n4,_,lf_w,λx dx' hx hdx hne=> ?_⟩
 have s3:Same H (upd (upd H dx' (.own x)) x (.ins (a "Plank") dx' [])):=(zae hdx).trans (zae (by rw[zah hne.symm];exact hx))
 refine⟨x,dx',n+r+c+r+c,w,by simp,TP,zac,by omega,b4,by omega,λcl H2 hcl P2 s4=>⟨rfl,q x cl H2 hx (s3.free hcl) P2 λb o eb=>s4 _ _ (s3 _ _ eb) (zak eb hx)⟩⟩
theorem zm7(h:zb5 K a vs H Q E):vs.length=5:=by
 obtain⟨_,_,_,_,_,_,rfl,_⟩:=h
 rfl
theorem zhd(h:zam K a vs H Q E):vs.length=3:=by
 obtain⟨_,_,_,_,_,_,_,rfl,_⟩:=h
 rfl
theorem zka(h:zap K a vs H Q E):vs.length=2:=by
 obtain⟨_,_,_,_,_,_,rfl,_⟩:=h
 rfl
theorem zhy(h:zaz K a vs H Q E):vs.length=2:=by
 obtain⟨_,_,_,_,_,_,rfl,_⟩:=h
 rfl
theorem zgx(h:zal K a vs H Q E):vs.length=2:=by
 obtain⟨_,_,_,_,_,_,rfl,_⟩:=h
 rfl
theorem zee(h:zag K a vs H Q E):vs.length=1:=by
 obtain⟨_,_,_,_,_,rfl,_⟩:=h
 rfl
theorem zky(h:zbn K a vs H Q E):vs.length=1:=by
 obtain⟨_,_,_,_,_,rfl,_⟩:=h
 rfl
theorem zkz(h:za1 K a vs H Q E):vs.length=1:=by
 obtain⟨_,_,_,_,_,rfl,_⟩:=h
 rfl
theorem zl3(h:zbv K a vs H Q E):vs.length=1:=by
 obtain⟨_,_,_,_,_,rfl,_⟩:=h
 rfl
theorem zvt{f:Nat->Bool}{m i:Nat}(hi:i<m)(h:f i=true)(hl:∀ j<i,f j=false):lowF f m=i:=by
 unfold lowF
 have:(List.range m).find? f=some i:=by
  rw[List.find?_eq_some_iff_append]
  refine⟨h,List.range i,(List.range (m - i - 1)).map (i+1+·),?_,λj hj=>by rw[hl j (List.mem_range.mp hj)];rfl⟩
  have e1:m=i+(1+(m - i - 1)):=by omega
  conv=>lhs;rw[e1]
  rw[List.range_add,List.range_add]
  simp[Nat.add_assoc,Function.comp_def]
 rw[this]
theorem zpk{f:Nat->Bool}{m:Nat}(hl:∀ j<m,f j=false):lowF f m= -1:=by
 unfold lowF
 have:(List.range m).find? f=none:=List.find?_eq_none.mpr λj hj=>by rw[hl j (List.mem_range.mp hj)];exact Bool.false_ne_true
 rw[this]
theorem zxh{n:Nat}{H:Hp}{v:V}{xs:List V}(hx:∀ z∈xs,zxe z)(hv:GoodV n H v)(hf:zlg v=true):inV v xs=decide (v∈xs):=by
 rw[Bool.eq_iff_iff,decide_eq_true_iff]
 unfold inV
 rw[List.any_eq_true]
 have key:∀ z,zxe z->(eqV z v=true↔z=v):=λz hz=>by
  rcases hz with rfl | ⟨i,rfl⟩<;>(cases v<;>first | (simp[eqV];done) | (cases n<;>exact hv.elim) | (simp[zlg]at hf))
 constructor
 ·rintro ⟨z,hz,e⟩
  rw[<-(key z (hx z hz)).mp e];exact hz
 ·intro h
  exact⟨v,h,(key v (hx v h)).mpr rfl⟩
def zfz(H H':Hp):Prop:=∀ b xs,H b=some (.tup xs)->H' b=some (.tup xs)
theorem GoodV.keep{H H':Hp}(k:zfz H H'):∀ {n:Nat} {v:V},GoodV n H v->GoodV n H' v
 | 0,_,h=>h
 | _+1,.int _,_=>trivial
 | _+1,.non,_=>trivial
 | _+1,.str _,h=>h
 | n+1,.ref p,⟨xs,h1,h2,h3⟩=>⟨xs,k _ _ h1,h2,λv hv=>(h3 v hv).keep k⟩
theorem Same.tk{H H':Hp}(s:Same H H'):zfz H H':=λb xs e=>s _ _ e
theorem zzx{v:V}{vl:Addr}{xs:List V}(hg:GoodV 4 H v)(hv:H vl=some (.tup xs))(hx:∀ z∈xs,zxe z)(q:Q (.bl (decide (v∈xs))) H):rInB K v (.ref vl) H Q:=by
  have fx:xs.all zlg=true:=List.all_eq_true.mpr λz hz=>by rcases hx z hz with rfl | ⟨i,rfl⟩<;>rfl
  have flat:zlg v=true->rInB K v (.ref vl) H Q:=λhf=>.inl ⟨vl,xs,rfl,.inr (SqT.of hv),hf,fx,by
    show Q (.bl (inV v xs)) H
    rw[zxh hx hg hf];exact q⟩
  cases v with
  | ref t =>
    obtain⟨ys,e,_⟩:=hg
    have:decide ((V.ref t)∈xs)=false:=decide_eq_false λhm=>by rcases hx _ hm with z | ⟨i,z⟩<;>cases z
    rw[this]at q
    exact .inr ⟨t,ys,vl,xs,rfl,SqT.of e,rfl,SqT.of hv,hx,q⟩
  | int i=>exact flat rfl
  | non=>exact flat rfl
  | str z=>exact flat rfl
  | _=>exact hg.elim
theorem zl4(h:zbe K a vs H Q E):zeu K a (λ_=>E) (ends Q) (zby ["hold","places","values","k","place"] vs) H:=by
  obtain⟨A,w,rows,n,cs,outs,pl,vl,ts,xs,f,m,rfl,T,TP,B,hp,hm,hm2,hv,hx,hf,q,qe⟩:=h
  obtain⟨dx,ho⟩:=B.bk.ob
  push_cast[zeu,↓zi1]
  refine⟨⟨_,SqL.of hp⟩,zq3 (xs:=ts.map V.ref) (λi σ H'=>(Same H H'/\∀ j<i,f j=false)/\∃ x y,σ=[some (.ref A.b),some (.ref pl),some (.ref vl),x,y]) ⟨⟨Same.refl _,λj hj=>absurd hj (Nat.not_lt_zero _)⟩,_,_,rfl⟩ (λi σ H' _ ⟨⟨s,_⟩,_⟩=>SqL.of (s _ _ hp)) (λi x σ H' t hx' ⟨⟨s,lo⟩,x0,y0,ez⟩ ht=> ?_) (λσ H' ⟨⟨s,lo⟩,x0,y0,ez⟩=> ?_)⟩
  · subst ez
    rw[List.getElem?_map]at hx'
    cases et:ts[i]? with
    | none=>rw[et]at hx';cases hx'
    | some tt =>
      rw[et]at hx'
      cases hx'
      obtain⟨bi,bj,v,e1,on,ev,gv,ef⟩:=hf i tt et
      have s2:=s.trans (zae (o:=.tup [.int (i:Int),.ref tt]) ht)
      push_cast[]
      refine⟨_,SqT.of zac,rfl,_,_,rfl,_,_,rfl,rfl,?_⟩
      revert s2
      generalize upd H' t (.tup [.int (i:Int),.ref tt])=H2
      intro s2
      push_cast[↓zi0,↓ziz]
      refine⟨_,_,s2 _ _ ho,zhr (by decide +kernel),A,w,rows,n,cs,outs,tt,bi,bj,rfl,T,TP,B.same s2,s2 _ _ e1,λ_ v' H3 ev' s3=> ?_,λz=>absurd on z⟩
      rw[ev]at ev'
      cases ev'
      have s4:=s2.trans s3
      refine zzx (gv.keep s4.tk) (s4 _ _ hv) hx ?_
      rw[<-ef]
      push_cast[]
      cases hfi:f i with
      | true=>exact q i (zvt (by have:=(List.getElem?_eq_some_iff.mp et).1;omega) hfi lo) _ s4
      | false=>exact⟨s4,λj hj=>by
          rcases Nat.lt_or_ge j i with z | z
          ·exact lo j z
          ·rw[show j=i by omega];exact hfi⟩
  · subst ez
    push_cast[↓zi2]
    rw[List.length_map,hm]at lo
    exact⟨by decide,qe (zpk lo) _ s⟩
theorem zm8(h:zbe K a vs H Q E):vs.length=3:=by
 obtain⟨_,_,_,_,_,_,_,_,_,_,_,_,rfl,_⟩:=h
 rfl
theorem zm9 {m w:Nat} {B:Nat->Int} {te:TE} {cap:List Nat} {σ:St} {H:Hp} {Q:VK} (hm:m<=1000) (ht:∀ i H' Q',i<m->Same H H'->zq6 (B i) (i % w:Nat) Q' H'->te (some (.int (0+(i:Int)))::capV cap σ) H' Q')
    (q:∀ (ts:List Addr) (H':Hp) (l:Addr),ts.length=m->Same H H'->(∀ k t,ts[k]? =some t->H' t=some (.tup [.int (B k),.int (k % w:Nat)]))->H' l=some (.lst (ts.map V.ref))->Q (.ref l) H'):zmr (Itr 0 m) (zbw 0) zg3 te 1 cap σ H Q:=by
  refine zhm (small m (by omega)) (λi ys H'=>Same H H'/\∃ ts:List Addr,ys=ts.map V.ref/\ts.length=i/\∀ k t,ts[k]? =some t->H' t=some (.tup [.int (B k),.int (k % w:Nat)])) ⟨Same.refl _,[],rfl,rfl,λk t h=>by simp at h⟩ (λi ys H' hi hl ⟨s,ts,e,el,h⟩=> ?_) λys H' hl ⟨s,ts,e,el,h⟩ l hl'=> ?_
  · refine ht i H' _ hi s λt htn=> ?_
    have st:=zae (o:=.tup [.int (B i),.int (i % w:Nat)]) htn
    refine⟨s.trans st,ts++[t],by rw[e,List.map_append];rfl,by simp[el],λk t' hk=> ?_⟩
    rcases Nat.lt_or_ge k ts.length with z | z
    · rw[List.getElem?_append_left z]at hk
      exact st _ _ (h k t' hk)
    · rw[List.getElem?_append_right z]at hk
      have hk0:k - ts.length=0:=by
        rcases Nat.eq_zero_or_pos (k - ts.length)with z | z
        ·exact z
        ·rw[List.getElem?_eq_none (by simp;omega)]at hk;cases hk
      rw[hk0]at hk
      cases hk
      have:k=i:=by omega
      subst this
      exact zac
  · subst e
    have st:=zae (o:=.lst (ts.map V.ref)) hl'
    exact q ts _ l (by simpa using hl) (s.trans st) (λk t hk=>st _ _ (h k t hk)) zac
theorem zxv{rows:List (List V)}{w i j:Nat}(hw:∀ r∈rows,r.length=w)(hi:i<rows.length)(hj:j<w)(cs:List Ch):∃ v,zda cs rows i j=some v:=by
  unfold zda
  cases e:zbs cs i j with
  | some k =>
    have:=zgg e
    exact⟨_,by show(cs[k]?).map _=_;rw[List.getElem?_eq_getElem this];rfl⟩
  | none =>
    have er:=List.getElem?_eq_getElem hi
    have hl:=hw _ (List.mem_of_getElem? er)
    exact⟨rows[i][j],by show(rows[(i:Int).toNat]?).bind (λr=>r[(j:Int).toNat]?)=_;rw[Int.toNat_natCast,Int.toNat_natCast,er];exact List.getElem?_eq_getElem (by omega)⟩
theorem zzy{n r c w kind k:Nat}(hk:kind<3)(h:k<ze8 n r c w kind):kBlk n r c w kind k<n+r+c+r+c:=by
 unfold ze8 at h
 unfold kBlk
 have hd:k / w<(if kind=0 then n else if kind=1 then r else if kind=2 then c else if kind=3 then r else c):=Nat.div_lt_of_lt_mul (by rw[Nat.mul_comm];exact h)
 rcases(by omega:kind=0\/kind=1\/kind=2)with z | z | z<;>subst z<;>simp at hd ⊢ <;>omega
theorem zzz{n r c w kind k:Nat}(h:k<ze8 n r c w kind):1<=w:=by
 unfold ze8 at h
 rcases Nat.eq_zero_or_pos w with z | z
 ·rw[z,Nat.mul_zero]at h;omega
 ·exact z
theorem zpl{n r c w kind:Nat}(h1:n<=6)(h2:r<=6)(h3:c<=6)(h4:w<=6):ze8 n r c w kind<=36:=by
 unfold ze8
 have h:(if kind=0 then n else if kind=1 then r else if kind=2 then c else if kind=3 then r else c)<=6:=by
  split<;>(try split)<;>(try split)<;>(try split)<;>omega
 exact Nat.mul_le_mul h h4
def zk0(kind:Nat):List V:=if kind=0 then [.non]else [.non,.int 0]
theorem zvu(kind:Nat)(v:V):decide (v∈zk0 kind)=zsc kind v:=by
 unfold zk0 zsc
 by_cases h:kind=0
 ·subst h;simp
 ·rw[if_neg h];simp[Nat.pos_of_ne_zero h]
theorem zs8{kind:Nat}{A:BA}{n r c w:Nat}{rows:List (List V)}{nn:Nat}{cs:List Ch}{outs:Int->Bool}{ts:List Addr}{l:Addr}{H':Hp}(hk:kind<3)(T:TB K a)(TP:zey K a)(s:Same H H')(B:BkAt a H A w rows nn cs outs)(hM:rows.length=n+r+c+r+c)(h1:n<=6)(h2:r<=6)(h3:c<=6)(h4:w<=6)
  (gh:∀ i j v,zda cs rows i j=some v->GoodV 4 H v) (hts:ts.length=ze8 n r c w kind) (ht:∀ k t,ts[k]? =some t->H' t=some (.tup [.int (kBlk n r c w kind k:Nat),.int (k % w:Nat)])) (el:H' l=some (.lst (ts.map V.ref)))
  (q:∀ k:Nat,lowF (zmw cs rows n r c w kind) (ze8 n r c w kind)=k->∀ H',Same H H'->Q (.int k) H') (qe:lowF (zmw cs rows n r c w kind) (ze8 n r c w kind)= -1->∀ H',Same H H'->E (.ref (a "NoRoom")) none H') :
  ∀ u,H' u=none->zbe K a [.ref A.b,.ref l,.ref u] (upd H' u (.tup (zk0 kind))) Q E:=λu hu=>by
 have su:=zae (o:=.tup (zk0 kind)) hu
 have s2:=s.trans su
 refine⟨A,w,rows,nn,cs,outs,l,u,ts,zk0 kind,zmw cs rows n r c w kind,ze8 n r c w kind,rfl,T,TP,B.same s2,su _ _ el,hts,by have:=zpl (kind:=kind) h1 h2 h3 h4;omega,zac,λz hz=> ?_,λk t hkt=> ?_,λk hk' H3 s3=>q k hk' H3 (s2.trans s3),λhk' H3 s3=>qe hk' H3 (s2.trans s3)⟩
 ·unfold zk0 at hz
  split at hz<;>simp at hz
  ·exact .inl hz
  ·rcases hz with z | z
   ·exact .inl z
   ·exact .inr ⟨0,z⟩
 ·have hlt:k<ze8 n r c w kind:=by have:=(List.getElem?_eq_some_iff.mp hkt).1;omega
  have hb:=zzy hk hlt
  have hw:=zzz hlt
  have hj:k % w<w:=Nat.mod_lt _ (by omega)
  obtain⟨v,ev⟩:=zxv (λr' hr'=>B.pk.wd r' hr') (show kBlk n r c w kind k<rows.length by omega) hj cs
  refine⟨_,_,v,su _ _ (ht k t hkt),⟨by omega,by omega,by omega,by omega⟩,ev,(gh _ _ _ ev).keep s2.tk,?_⟩
  unfold zmw
  rw[ev,zvu]
theorem znx(h:zcv K a vs H Q E):zfs K a (λ_=>E) (ends Q) (zby ["layout","hold","places"] vs) H:=by
 obtain⟨p,b,rfl,A,n,r,c,w,rows,nn,cs,outs,rfl,T,TP,TL,L,h1,h2,h3,h4,B,hM,gh,q,qe⟩:=h
 obtain⟨dx,e⟩:=L.ob
 push_cast[zfs,↓zkr,↓zks]
 refine⟨_,_,e,zgh (by decide +kernel),p,n,r,c,w,rfl,TL,L,λt ht=> ?_⟩
 have s1:=zae (o:=.tup [V.int ((n:Int) * w),V.int ((r:Int) * w),V.int ((c:Int) * w)]) ht
 refine zh5 zac (n:=0) rfl rfl ?_
 revert s1
 generalize upd H t (.tup [V.int ((n:Int) * w),V.int ((r:Int) * w),V.int ((c:Int) * w)])=H1
 intro s1
 have hk:=zpl (kind:=0) h1 h2 h3 h4
 have em:(n:Int) * w=(ze8 n r c w 0:Nat):=by unfold ze8;simp
 rw[em]
 push_cast[]
 refine⟨by omega,by omega,zm9 (B:=λk=>(kBlk n r c w 0 k:Nat)) (w:=w) (by omega) (λi H' Q' hi s' q'=> ?_) λts H' l hts s' htt el=> ?_⟩
 ·push_cast[capV]
  refine⟨_,_,s' _ _ (s1 _ _ e),zgh (by decide +kernel),p,n,r,c,w,i,(by simp),TL,(L.same s1).same s',?_⟩
  unfold kBlk at q'
  simpa using q'
 ·push_cast[]
  exact⟨by decide,zs8 (kind:=0) (by decide) T TP (s1.trans s') B hM h1 h2 h3 h4 gh hts htt el q qe⟩
theorem zpm(h:zcv K a vs H Q E):vs.length=2:=by
 obtain⟨_,_,rfl,_⟩:=h
 rfl
theorem zl5(h:zb7 K a vs H Q E):zev K a (λ_=>E) (ends Q) (zby ["layout","hold","marks"] vs) H:=by
 obtain⟨p,b,rfl,A,n,r,c,w,rows,nn,cs,outs,rfl,T,TP,TL,L,h1,h2,h3,h4,B,hM,gh,q,qe⟩:=h
 obtain⟨dx,e⟩:=L.ob
 push_cast[zev,↓zi3,↓zi4]
 refine⟨_,_,e,zgh (by decide +kernel),p,n,r,c,w,rfl,TL,L,λt ht=> ?_⟩
 have s1:=zae (o:=.tup [V.int ((n:Int) * w),V.int ((r:Int) * w),V.int ((c:Int) * w)]) ht
 refine zh5 zac (n:=1) rfl rfl ?_
 revert s1
 generalize upd H t (.tup [V.int ((n:Int) * w),V.int ((r:Int) * w),V.int ((c:Int) * w)])=H1
 intro s1
 have hk:=zpl (kind:=1) h1 h2 h3 h4
 have em:(r:Int) * w=(ze8 n r c w 1:Nat):=by unfold ze8;simp
 rw[em]
 push_cast[]
 refine⟨by omega,by omega,zm9 (B:=λk=>(kBlk n r c w 1 k:Nat)) (w:=w) (by omega) (λi H' Q' hi s' q'=> ?_) λts H' l hts s' htt el=> ?_⟩
 ·push_cast[capV]
  refine⟨_,_,s' _ _ (s1 _ _ e),zgh (by decide +kernel),p,n,r,c,w,i,(by simp),TL,(L.same s1).same s',?_⟩
  unfold kBlk at q'
  simpa using q'
 ·push_cast[]
  exact⟨by decide,zs8 (kind:=1) (by decide) T TP (s1.trans s') B hM h1 h2 h3 h4 gh hts htt el q qe⟩
theorem zna(h:zb7 K a vs H Q E):vs.length=2:=by
 obtain⟨_,_,rfl,_⟩:=h
 rfl
theorem zrd{cs:List Ch}{rows:List (List V)}(g:goodH H cs rows){i j:Int}{v:V}(h:zda cs rows i j=some v):GoodV 4 H v:=by
  unfold zda at h
  cases e:zbs cs i j with
  | some k =>
    rw[e]at h
    have h:(cs[k]?).map (·.val)=some v:=h
    cases ec:cs[k]? with
    | none=>rw[ec]at h;cases h
    | some c =>
      rw[ec]at h
      cases h
      exact g.2 c (List.mem_of_getElem? ec)
  | none =>
    rw[e]at h
    have h:(rows[i.toNat]?).bind (λr=>r[j.toNat]?)=some v:=h
    cases er:rows[i.toNat]? with
    | none=>rw[er]at h;cases h
    | some r =>
      rw[er]at h
      exact g.1 r (List.mem_of_getElem? er) v (List.mem_of_getElem? h)
theorem goodH.keep{H H':Hp}{cs:List Ch}{rows:List (List V)}(g:goodH H cs rows)(k:zfz H H'):goodH H' cs rows:=⟨λr hr v hv=>(g.1 r hr v hv).keep k,λc hc=>(g.2 c hc).keep k⟩
theorem zdw{cs:List Ch}{rows:List (List V)}{i j:Int}{bi bj:Nat}{v:V}{nd:List Int}:zda (cs++[⟨bi,bj,v,nd⟩]) rows i j=if(bi:Int)=i/\(bj:Int)=j then some v else zda cs rows i j:=by
  unfold zda
  rw[zd8]
  by_cases h:(bi:Int)=i/\(bj:Int)=j
  · rw[if_pos h,if_pos h]
    simp
  · rw[if_neg h,if_neg h]
    cases e:zbs cs i j with
    | none=>rfl
    | some k =>
      show((cs++[_])[k]?).map _=(cs[k]?).map _
      rw[List.getElem?_append_left (zgg e)]
theorem zkb{G:Addr->Prop}{H H':Hp}(s:SameBut G H H')(g:∀ x,G x->zlj (H x)):zfz H H':=λb xs e=>s _ _ e λz=>(g _ z).1 _ e
theorem zz0{z:Str}{i:Int}{n:Nat}{c:Nat}{Q:VK}(hi:i=n)(hL:z.cps.toList.length<=1000)(hc:z.cps.toList[n]? =some c)(q:Q (.str ⟨#[c]⟩) H):rIxA K (.str z) (.int i) H Q:=by
 subst hi
 exact .inr (.inr ⟨z,n,c,rfl,rfl,Nat.le_trans (by simpa [Str.length]using hL) (small _ (by omega)),zrt hc,q⟩)
theorem zab7{c:Nat}:[c]<(Str.ofString "a").cps.toList↔c<97:=by
 rw[show(Str.ofString "a").cps.toList=[97] by decide +kernel,List.cons_lt_cons_iff]
 simp
theorem zab8{c:Nat}:(Str.ofString "z").cps.toList<[c]↔122<c:=by
 rw[show(Str.ofString "z").cps.toList=[122] by decide +kernel,List.cons_lt_cons_iff]
 simp
theorem zre{z:Str}{f:Nat->Bool}{te:TE}{Q:VK}(hz:z.length<=1000)(ht:∀ c (Q':VK),Q' (.bl (f c)) H->te [some (.str ⟨#[c]⟩)] H Q')(q:∀ H',Same H H'->Q (.bl (z.cps.toList.all f)) H') :
  zmr (Itx z) (zbw 0) zg3 te 1 [] [some (.str z)] H λx H1=>zge K [x] H1 Q:=by
 have hs:z.cps.size=z.length:=rfl
 refine zw4 (small _ (by omega)) (λi ys H'=>H'=H/\ys=(z.cps.toList.take i).map λc=>V.bl (f c)) ⟨rfl,by simp⟩ (λi c ys H' hc hl ⟨e1,e2⟩=> ?_) (λys H' hl ⟨e1,e2⟩ p hp=> ?_)
 ·subst e1
  refine ht c _ ⟨rfl,?_⟩
  have hc':z.cps.toList[i]? =some c:=by simpa using hc
  rw[List.take_add_one,hc',e2]
  simp
 ·subst e1
  have e3:ys=(z.cps.toList.map f).map V.bl:=by
   rw[e2,List.map_map,List.take_of_length_le (by simp)];rfl
  refine⟨p,z.cps.toList.map f,rfl,by rw[<-e3];exact SqL.of zac,?_⟩
  have:=q _ (zae (o:=.lst ys) hp)
  rw[List.all_map]
  exact this
theorem zrf (h:zd3 K a vs H Q E):zhq K a (λ_=>E) (ends Q) (zby ["thing"] vs) H:=by
  obtain⟨z,rfl,hz,q⟩:=h
  push_cast[zhq,↓zmx]
  unfold zd2 at q
  refine⟨z.length,⟨small _ (by omega),rfl⟩,?_⟩
  split
  · rename_i h1
    rw[show decide (1<=z.length)=true from decide_eq_true (by omega),Bool.true_and]at q
    by_cases h2:z.length<=8
    · rw[show decide (z.length<=8)=true from decide_eq_true h2,Bool.true_and]at q
      rw[if_pos (by omega)]
      refine zre hz (λc Q' q'=> ?_) q
      push_cast[zab7,zab8]
      unfold zhp at q'
      split
      · rename_i h3
        rw[show decide (97<=c)=true from decide_eq_true (by omega),Bool.true_and]at q'
        rw[show(!decide (122<c))=decide (c<=122) by rw[<-decide_not];exact decide_eq_decide.mpr (by omega)]
        exact q'
      · rename_i h3
        rw[show decide (97<=c)=false from decide_eq_false (by omega),Bool.false_and]at q'
        exact q'
    · rw[show decide (z.length<=8)=false from decide_eq_false h2,Bool.false_and]at q
      rw[if_neg (by omega)]
      exact q _ (Same.refl _)
  · rename_i h1
    rw[show decide (1<=z.length)=false from decide_eq_false (by omega),Bool.false_and,Bool.false_and]at q
    exact q _ (Same.refl _)
theorem zsl(h:zd3 K a vs H Q E):vs.length=1:=by
 obtain⟨_,rfl,_⟩:=h
 rfl
theorem zpn(x y:Str):(x++y).length=x.length+y.length:=PySem.strLen_append x y
theorem zxi(x:Int){n:Nat}(h:1<=n):∃ b:Nat,x % (n:Int)=b/\b<n :=
  ⟨(x % (n:Int)).toNat,by have:=Int.emod_nonneg x (show(n:Int)≠0 by omega);omega,by
    have:=Int.emod_lt_of_pos x (show(0:Int)<n by omega)
    have:=Int.emod_nonneg x (show(n:Int)≠0 by omega);omega⟩
section
variable{lp b tk:Addr}
theorem sf_p:(sf lp b tk).lookup ("plan":Str)=some (V.ref lp):=by simp[sf]
theorem sf_b:(sf lp b tk).lookup ("book":Str)=some (V.ref b):=by
 simp[sf,List.lookup_cons,s_ne (a:="book") (b:="plan") (by decide +kernel)]
theorem sf_t:(sf lp b tk).lookup ("taken_out":Str)=some (V.ref tk):=by
 simp[sf,List.lookup_cons,s_ne (a:="taken_out") (b:="plan") (by decide +kernel),s_ne (a:="taken_out") (b:="book") (by decide +kernel)]
theorem zpo{x:Str}(h:(zib x "plan" || zib x "book" || zib x "taken_out")=false):(sf lp b tk).lookup x=none:=by
 simp only[Bool.or_eq_false_iff]at h
 obtain⟨⟨h1,h2⟩,h3⟩:=h
 simp[sf,List.lookup_cons,s_ne h1,s_ne h2,s_ne h3]
theorem zab9:putF "taken_out" (.ref tk) (putF "book" (.ref b) (putF "plan" (.ref lp) []))=sf lp b tk:=by
 repeat (first | rw[zho] | rw[zkk (by decide +kernel)])
 rfl
end
theorem NmV.keep{H H':Hp}{v:V}{x:Option (Str × Nat)}(h:NmV H v x)(k:zfz H H'):NmV H' v x:=by
 cases x with
 | none=>exact h
 | some p=>obtain⟨t,e,et⟩:=h;exact⟨t,e,k _ _ et⟩
theorem StAt.same{H H':Hp}{S:SA}{n r c w:Nat}{rows:List (List V)}{nn:Nat}{cs:List Ch}{outs:Int->Bool}{tks:List (Key × V)}{nm:Nat->Option (Str × Nat)}(I:StAt a H S n r c w rows nn cs outs tks nm)(s:Same H H'):StAt a H' S n r c w rows nn cs outs tks nm:=by
 obtain⟨⟨dx,e1⟩,e2,e3,e4,e5,e6,e7,e8,e9⟩:=I
 exact⟨⟨dx,s _ _ e1⟩,e2.same s,e3.same s,s _ _ e4,e5,e6,e7,e8.keep s.tk,λk v hk hv=>(e9 k v hk hv).keep s.tk⟩
theorem znb(h:zck K a vs H Q E):ze9 K a (λ_=>E) (ends Q) (zby ["self"] vs) H:=by
 obtain⟨x,dx,lp,b,tk,rfl,T,e,q⟩:=h
 push_cast[ze9,↓zjt]
 exact⟨_,_,_,e,T.cl,T.n2,_,sf_b,q⟩
theorem zny(h:zck K a vs H Q E):vs.length=1:=by
 obtain⟨_,_,_,_,_,rfl,_⟩:=h
 rfl
theorem BookAt.ins1{C:Addr}{H H':Hp}{A:BA}{w:Nat}{rows:List (List V)}{n:Nat}{cs:List Ch}{outs:Int->Bool}{x C' dx:Addr}{fs:List (Str × V)}(B:BookAt a C H A w rows n cs outs)(s:SameBut (· =x) H H')(hx:H x=some (.ins C' dx fs))(hf:fs.length<=2):BookAt a C H' A w rows n cs outs:=by
 obtain⟨⟨⟨d1,e1⟩,⟨chs,e2,e3⟩,e4,e5,e6,⟨kvs,e7,e8⟩,⟨kvo,e9,e10⟩,r1,r2,r3,r4,r5⟩,⟨⟨d2,f1⟩,⟨ts,f2,f3⟩,f4,f5,f6⟩,nb⟩:=B
 have o:∀ {y:Addr} {o:HO},H y=some o->(∀ C'' d'' ,o≠.ins C'' d'' fs)->H' y=some o:=λe h=>s _ _ e (ze6 e hx (h _ _))
 have oi:∀ {y:Addr} {C'' d'':Addr} {gs:List (Str × V)},H y=some (.ins C'' d'' gs)->2<gs.length->H' y=some (.ins C'' d'' gs):=λe h=>o e λ_ _ z=>by injection z with _ _ z;rw[z]at h;omega
 have ol:∀ {y:Addr} {o':HO},H y=some o'->(∀ C'' d'' gs,o'≠.ins C'' d'' gs)->H' y=some o':=λe h=>o e λ_ _=>h _ _ _
 exact⟨⟨⟨d1,oi e1 (by simp[bf])⟩,⟨chs,ol e2 (by intros;simp),Paired.mapP e3 λy c ⟨d,pl,nt,g1,g2,g3⟩=>⟨d,pl,nt,oi g1 (by simp[chf]),ol g2 (by intros;simp),ol g3 (by intros;simp)⟩⟩,ol e4 (by intros;simp),λi l h=>ol (e5 i l h) (by intros;simp),e6,⟨kvs,ol e7 (by intros;simp),e8⟩,⟨kvo,ol e9 (by intros;simp),e10⟩,r1,r2,r3,r4,r5⟩,⟨⟨d2,oi f1 (by simp[pf])⟩,⟨ts,ol f2 (by intros;simp),Paired.mapP f3 λt r z=>ol z (by intros;simp)⟩,f4,f5,f6⟩,nb⟩
theorem znc(h:zcj K a vs H Q E):zfc K a (λ_=>E) (ends Q) (zby ["self","layout","plank"] vs) H:=by
 obtain⟨x,dx,lp,gp,cl,n,r,c,w,rows,nn,nm,rfl,⟨T,TP,TL,TS⟩,hx,L,P,sz,g,hnm,q⟩:=h
 push_cast[zfc,↓zjz,↓zj0,↓zj1]
 refine⟨_,_,_,hx,TS.cl,TS.n1,by decide,?_⟩
 have e1:upd H x (.ins (a "Store") dx (putF "plan" (.ref lp) [])) x=some (.ins (a "Store") dx (putF "plan" (.ref lp) [])):=zac
 have s1:SameBut (· =x) H (upd H x (.ins (a "Store") dx (putF "plan" (.ref lp) []))):=λy o e n=>by rw[zah n];exact e
 revert e1 s1
 generalize upd H x (.ins (a "Store") dx (putF "plan" (.ref lp) []))=H1
 intro e1 s1
 have P1:PlankAt a H1 gp cl w rows nn:=by
  obtain⟨⟨dx',f1⟩,⟨ts,f2,f3⟩,r1,r2,r3⟩:=P
  exact⟨⟨dx',s1 _ _ f1 (ze6 f1 hx (zs6 (by simp[pf])))⟩,⟨ts,s1 _ _ f2 (ze6 f2 hx (by intro z;cases z)),Paired.mapP f3 λt r z=>s1 _ _ z (ze6 z hx (by intro z;cases z))⟩,r1,r2,r3⟩
 have ncl:cl≠x:=by obtain⟨ts,z,_⟩:=P.ls;exact ze6 z hx (by intro z;cases z)
 refine zxg T TP P1 λA H2 eg ec off B s2=> ?_
 have hx2:=s2 _ _ e1
 refine⟨_,_,_,hx2,TS.cl,TS.n2,zds (n:=999) (by decide),λp hp=> ?_⟩
 have np:x≠p:=zak zac hp
 rw[zah np.symm]at hp
 refine⟨_,_,_,by rw[zah np,zac],TS.cl,TS.n3,zds (n:=999) (zds (n:=998) (by decide)),?_⟩
 rw[zab9]
 have s3:SameBut (· =x) H2 (upd (upd (upd H2 x (.ins (a "Store") dx (putF "book" (.ref A.b) (putF "plan" (.ref lp) [])))) p (.dK [])) x (.ins (a "Store") dx (sf lp A.b p))):=λy o e n=>by
  rw[zah n,zah (zak e hp),zah n];exact e
 have e3:upd (upd (upd H2 x (.ins (a "Store") dx (putF "book" (.ref A.b) (putF "plan" (.ref lp) [])))) p (.dK [])) x (.ins (a "Store") dx (sf lp A.b p)) x=some (.ins (a "Store") dx (sf lp A.b p)):=zac
 have p3:upd (upd (upd H2 x (.ins (a "Store") dx (putF "book" (.ref A.b) (putF "plan" (.ref lp) [])))) p (.dK [])) x (.ins (a "Store") dx (sf lp A.b p)) p=some (.dK []):=by rw[zah np.symm,zac]
 revert s3 e3 p3
 generalize upd (upd (upd H2 x (.ins (a "Store") dx (putF "book" (.ref A.b) (putF "plan" (.ref lp) [])))) p (.dK [])) x (.ins (a "Store") dx (sf lp A.b p))=H3
 intro s3 e3 p3
 have B3:=B.ins1 s3 hx2 (Nat.le_trans (zff _ _ _) (by simp))
 have sb:SameBut (· =x) H H3:=(s1.trans (Same.sb s2)).trans s3
 have tk:zfz H H3:=λb xs e=>sb _ _ e (ze6 e hx (by intro z;cases z))
 have hpH:H p=none:=s1.none (by rw[e1];intro z;cases z) (s2.free hp)
 obtain⟨dl,el⟩:=L.ob
 refine q ⟨A,x,lp,p⟩ H3 rfl rfl eg ec (λy o e=> ?_) hpH ⟨⟨dx,e3⟩,L.sb sb (ze6 el hx (zs6 (by simp[lf]))),B3,p3,λz v h=>by simp[valV]at h,B.off hp,sz,⟨λr hr v hv=>(g r hr v hv).keep tk,λc hc=>by cases hc⟩,λk v hk hv=>(hnm k v hk hv).keep tk⟩ sb
 by_cases hy:y=x
 ·subst hy
  exact(off _ _ e1).imp id id
 ·exact off y o (s1 _ _ e hy)
theorem znz(h:zcj K a vs H Q E):vs.length=3:=by
 obtain⟨_,_,_,_,_,_,_,_,_,_,_,_,rfl,_⟩:=h
 rfl
theorem znd{S:SA}{n r c w:Nat}{rows:List (List V)}{nn:Nat}{cs:List Ch}{outs:Int->Bool}{tks:List (Key × V)}{nm:Nat->Option (Str × Nat)}(I:StAt a H S n r c w rows nn cs outs tks nm){k:Nat}(hk:k<n * w):onPl rows w (k / w:Nat) (k % w:Nat):=by
 have h1:=I.ly.h1
 have hz:=I.sz
 have hd:k / w<n:=Nat.div_lt_of_lt_mul (by rw[Nat.mul_comm];exact hk)
 have hm:k % w<w:=Nat.mod_lt _ (by omega)
 exact⟨Int.natCast_nonneg _,by omega,Int.natCast_nonneg _,by omega⟩
theorem zhe (h:za0 K a vs H Q E):zcz K a (λ_=>E) (ends Q) (zby ["self"] vs) H:=by
  obtain⟨S,n,r,c,w,rows,nn,cs,outs,tks,nm,rfl,⟨T,TP,TL,TS⟩,I,q⟩:=h
  obtain⟨dx,ho⟩:=I.ob
  obtain⟨dl,el⟩:=I.ly.ob
  obtain⟨db,eb⟩:=I.bk.bk.ob
  have hz:=I.sz
  have hkm:n * w<=36:=Nat.mul_le_mul hz.1 hz.2.2.2.1
  push_cast[zcz,↓zf6]
  refine⟨_,_,_,ho,TS.cl,TS.n1,_,sf_p,S.lp,rfl,_,_,el,zgh (by decide +kernel),S.lp,n,r,c,w,rfl,TL,I.ly,λt ht=> ?_⟩
  have s1:=zae (o:=.tup [V.int ((n:Int) * w),V.int ((r:Int) * w),V.int ((c:Int) * w)]) ht
  refine zh5 zac (n:=0) rfl rfl ?_
  revert s1
  generalize upd H t (.tup [V.int ((n:Int) * w),V.int ((r:Int) * w),V.int ((c:Int) * w)])=H1
  intro s1
  have em:(n:Int) * w=(n * w:Nat):=by simp
  rw[em]
  push_cast[]
  refine⟨by omega,by omega,zhm (small _ (by omega)) (λi ys H'=>Same H H'/\ys.length=i/\∀ k v,ys[k]? =some v->zda cs rows (k / w:Nat) (k % w:Nat)=some v) ⟨s1,rfl,λk v h=>by simp at h⟩ (λi ys H' hi hl ⟨s,_,al⟩=> ?_) (λys H' hl ⟨s,_,al⟩ p hp=> ?_)⟩
  · push_cast[capV]
    refine⟨_,_,_,s _ _ ho,TS.cl,TS.n2,_,sf_b,S.A.b,rfl,_,_,s _ _ eb,zhr (by decide +kernel),_,_,_,s _ _ ho,TS.cl,TS.n1,_,sf_p,S.lp,rfl,_,_,s _ _ el,zgh (by decide +kernel),S.lp,n,r,c,w,i,by simp,TL,I.ly.same s,λu hu=> ?_⟩
    have s2:=s.trans (zae (o:=.tup [.int (0+(i:Int) / w),.int ((i:Int) % w)]) hu)
    refine⟨S.A,w,rows,nn,cs,outs,u,(i / w:Nat),(i % w:Nat),rfl,T,TP,I.bk.same s2,by rw[zac];simp,λ_ v H3 ev s3=>⟨s2.trans s3,by simp[hl],λk v' hk=> ?_⟩,λz=>absurd (znd I hi) z⟩
    rcases Nat.lt_or_ge k ys.length with z | z
    ·rw[List.getElem?_append_left z]at hk;exact al k v' hk
    · rw[List.getElem?_append_right z]at hk
      have:k=i:=by
        rcases Nat.eq_or_lt_of_le z with y | y
        ·omega
        ·rw[List.getElem?_eq_none (by simp;omega)]at hk;cases hk
      subst this
      rw[hl,Nat.sub_self]at hk
      cases hk
      exact ev
  · have sp:=zae (o:=.lst ys) hp
    have s3:=s.trans sp
    refine q p ys _ s3 zac hl (λk v hk=> ?_) al
    have hkl:=(List.getElem?_eq_some_iff.mp hk).1
    exact(I.nms k v (by omega) (al k v hk)).keep s3.tk
theorem zhz(h:za0 K a vs H Q E):vs.length=1:=by
 obtain⟨_,_,_,_,_,_,_,_,_,_,_,rfl,_⟩:=h
 rfl
theorem zvv{nm:Nat->Option (Str × Nat)}{m i:Nat}{z:Str}(hi:i<m)(h:(nm i).any (λp=>decide (p.1=z))=true)(hl:∀ j<i,(nm j).any (λp=>decide (p.1=z))=false):cellOf nm m z=some i:=by
 unfold cellOf
 rw[List.find?_eq_some_iff_append]
 refine⟨h,List.range i,(List.range (m - i - 1)).map (i+1+·),?_,λj hj=>by rw[hl j (List.mem_range.mp hj)];rfl⟩
 have e1:m=i+(1+(m - i - 1)):=by omega
 conv=>lhs;rw[e1]
 rw[List.range_add,List.range_add]
 simp[Nat.add_assoc,Function.comp_def]
theorem zrg{nm:Nat->Option (Str × Nat)}{m:Nat}{z:Str}(hl:∀ j<m,(nm j).any (λp=>decide (p.1=z))=false):cellOf nm m z=none:=by
 unfold cellOf
 exact List.find?_eq_none.mpr λj hj=>by rw[hl j (List.mem_range.mp hj)];exact Bool.false_ne_true
theorem zkc (h:zbo K a vs H Q E):zdz K a (λ_=>E) (ends Q) (zby ["self","name","cell","value"] vs) H:=by
  obtain⟨S,n,r,c,w,rows,nn,cs,outs,tks,nm,z,rfl,T4,I,q⟩:=h
  obtain⟨dx,ho⟩:=I.ob
  push_cast[zdz,↓zha]
  refine⟨_,_,ho,zpo (by decide +kernel),S,n,r,c,w,rows,nn,cs,outs,tks,nm,rfl,T4,I,λl xs H1 s1 el hl hx _=> ?_⟩
  refine⟨l,rfl,⟨_,SqL.of el⟩,zq3 (xs:=xs) (λi σ H'=>(Same H H'/\Same H1 H'/\∀ j<i,(nm j).any (λp=>decide (p.1=z))=false)/\∃ x y,σ=[some (.ref S.st),some (.str z),x,y]) ⟨⟨s1,Same.refl _,λj hj=>absurd hj (Nat.not_lt_zero _)⟩,_,_,rfl⟩ (λi σ H' _ ⟨⟨_,s,_⟩,_⟩=>SqL.of (s _ _ el)) (λi x σ H' t hxi ⟨⟨sH,s,lo⟩,y1,y2,ez⟩ ht=> ?_) (λσ H' ⟨⟨sH,s,lo⟩,y1,y2,ez⟩=> ?_)⟩
  · subst ez
    have hi:=(List.getElem?_eq_some_iff.mp hxi).1
    have s2:=s.trans (zae (o:=.tup [.int (i:Int),x]) ht)
    have sH2:=sH.trans (zae (o:=.tup [.int (i:Int),x]) ht)
    have nx:=(hx i x hxi).keep s2.tk
    push_cast[]
    refine⟨_,SqT.of zac,rfl,_,_,rfl,_,_,rfl,rfl,?_⟩
    revert s2 sH2 nx
    generalize upd H' t (.tup [.int (i:Int),x])=H2
    intro s2 sH2 nx
    have next:(nm i).any (λp=>decide (p.1=z))=false->Same H H2/\Same H1 H2/\∀ j<i+1,(nm j).any (λp=>decide (p.1=z))=false:=λh=>⟨sH2,s2,λj hj=>by
      rcases Nat.lt_or_ge j i with y | y
      ·exact lo j y
      ·rw[show j=i by omega];exact h⟩
    push_cast[↓zg9,↓zg8]
    cases en:nm i with
    | none =>
      rw[en]at nx next
      rw[show x=.non from nx]
      push_cast[]
      exact next rfl
    | some p =>
      rw[en]at nx next
      obtain⟨u,rfl,eu⟩:=nx
      rw[if_pos (by simp)]
      refine zh5 eu (n:=0) rfl rfl ?_
      push_cast[]
      by_cases hz:p.1=z
      · rw[if_pos hz]
        have:=q _ sH2
        rw[zvv (i:=i) (by omega) (by rw[en];simpa using hz) lo]at this
        exact this
      · rw[if_neg hz]
        exact next (by simpa using hz)
  · subst ez
    push_cast[↓zhb]
    have:=q _ sH
    rw[zrg (by rw[<-hl];exact lo)]at this
    exact this
theorem zk1(h:zbo K a vs H Q E):vs.length=2:=by
 obtain⟨_,_,_,_,_,_,_,_,_,_,_,_,rfl,_⟩:=h
 rfl
theorem zl6(h:zb8 K a vs H Q E):zew K a (λ_=>E) (ends Q) (zby ["self"] vs) H:=by
  obtain⟨S,n,r,c,w,rows,nn,cs,outs,tks,nm,rfl,T4,I,q⟩:=h
  obtain⟨dx,ho⟩:=I.ob
  have hz:=I.sz
  have hkm:n * w<=36:=Nat.mul_le_mul hz.1 hz.2.2.2.1
  push_cast[zew,↓zi5]
  refine⟨_,_,ho,zpo (by decide +kernel),S,n,r,c,w,rows,nn,cs,outs,tks,nm,rfl,T4,I,λl xs H1 s1 el hl hx _=> ?_⟩
  push_cast[]
  refine .inl ⟨⟨_,SqL.of el⟩,ztx (xs:=xs) (small _ (by omega)) (λi σ' ys H'=>H'=H1/\(∃ y0,σ'=[y0])/\ys=(zh6 nm i).map V.str) ⟨rfl,⟨_,rfl⟩,rfl⟩ (λi σ' ys H' ⟨e,_,ey⟩=>⟨e ▸ SqL.of el,by rw[ey,List.length_map];exact Nat.le_trans (List.length_filterMap_le _ _) (by simp)⟩) (λi x σ' ys H' hi hxi ⟨e,⟨y0,es⟩,ey⟩=> ?_) (λσ' ys H' ⟨e,_,ey⟩ p hp=> ?_)⟩
  · subst e es
    have nx:=hx i x hxi
    have nxt:zh6 nm (i+1)=zh6 nm i++((nm i).map (·.1)).toList:=by
      unfold zh6
      rw[List.range_succ,List.filterMap_append]
      cases e:nm i<;>simp[e]
    push_cast[]
    cases en:nm i with
    | none =>
      rw[en]at nx nxt
      rw[show x=.non from nx,if_neg (by simp)]
      exact⟨_,by omega,rfl,by omega,by rw[nxt,ey];simp⟩
    | some p =>
      rw[en]at nx nxt
      obtain⟨u,rfl,eu⟩:=nx
      rw[if_pos (by simp)]
      exact⟨λy H4=>y=.str p.1/\H4=H',λy H4 ⟨e1,e2⟩=>⟨_,by omega,rfl,by omega,e2,by rw[nxt,ey,e1];simp⟩,zh5 eu (n:=0) rfl rfl ⟨rfl,rfl⟩⟩
  · subst e
    have sp:=zae (o:=.lst ys) hp
    refine⟨p,zh6 nm (n * w),rfl,by rw[<-hl,<-ey];exact SqL.of zac,Nat.lt_of_le_of_lt (List.length_filterMap_le _ _) (by simp;omega),λD ks hD pk hs=> ?_⟩
    exact q D ks _ (s1.free (sp.free hD)) ((s1.trans sp).trans (zae hD)) zac pk hs
theorem zne(h:zb8 K a vs H Q E):vs.length=1:=by
 obtain⟨_,_,_,_,_,_,_,_,_,_,_,rfl,_⟩:=h
 rfl
theorem zfj (h:zar K a vs H Q E):zbu K a (λ_=>E) (ends Q) (zby ["self","new","given"] vs) H:=by
  obtain⟨S,n,r,c,w,rows,nn,cs,outs,tks,nm,z,gl,zs,rfl,T4,I,eg,hl,hy,q,q1,q2⟩:=h
  obtain⟨dx,ho⟩:=I.ob
  push_cast[zbu,↓ze0]
  refine .inl ⟨⟨_,SqL.of eg⟩,zu8 (xs:=zs.map V.str) (small _ (by rw[List.length_map];omega)) (λi ys H'=>Same H H'/\ys=((zs.take i).map zd2).map V.bl) ⟨Same.refl _,rfl⟩ (λi ys H' _ ⟨s,_⟩=>SqL.of (s _ _ eg)) (λi x ys H' hxi hyl ⟨s,ey⟩=> ?_) (λys H' hyl ⟨s,ey⟩ p hp=> ?_)⟩
  · rw[List.getElem?_map,Option.map_eq_some_iff]at hxi
    obtain⟨x',hx',rfl⟩:=hxi
    push_cast[capV]
    refine⟨x',rfl,hy x' (List.mem_of_getElem? hx'),λH2 s2=>⟨s.trans s2,?_⟩⟩
    rw[List.take_add_one,hx',ey]
    simp
  · rw [List.length_map,List.take_length]at ey
    have sp:=zae (o:=.lst ys) hp
    have s2:=s.trans sp
    refine⟨p,zs.map zd2,rfl,by rw[<-ey];exact SqL.of zac,?_⟩
    rw[List.all_map,Function.id_comp]
    revert s2
    generalize upd H' p (.lst ys)=H2
    intro s2
    cases hb:zs.all zd2 with
    | false =>
      push_cast[↓zez]
      exact⟨by decide,q1 hb _ s2⟩
    | true =>
      push_cast[↓ze2]
      refine⟨_,_,s2 _ _ ho,zpo (by decide +kernel),S,n,r,c,w,rows,nn,cs,outs,tks,nm,z,rfl,T4,I.same s2,λH3 s3=> ?_⟩
      have s4:=s2.trans s3
      cases hc:cellOf nm (n * w) z with
      | none =>
        push_cast[optV]
        exact q hb hc _ s4
      | some k =>
        push_cast[optV,↓ze1]
        exact⟨by decide,q2 hb ⟨k,hc⟩ _ s4⟩
theorem zfn(h:zar K a vs H Q E):vs.length=3:=by
 obtain⟨_,_,_,_,_,_,_,_,_,_,_,_,_,_,rfl,_⟩:=h
 rfl
theorem StAt.snoc{H H':Hp}{S:SA}{n r c w:Nat}{rows:List (List V)}{nn:Nat}{cs:List Ch}{outs:Int->Bool}{tks:List (Key × V)}{nm nm':Nat->Option (Str × Nat)}{i j:Nat}{v:V}{nd:List Int}(I:StAt a H S n r c w rows nn cs outs tks nm)(B:BkAt a H' S.A w rows nn (cs++[⟨i,j,v,nd⟩]) outs)(s:SameBut S.A.F H H')(g:GoodV 4 H' v)
  (hn:∀ k,k<n * w->(if i=k / w/\j=k % w then NmV H' v (nm' k)else nm' k=nm k)):StAt a H' S n r c w rows nn (cs++[⟨i,j,v,nd⟩]) outs tks nm':=by
 have lo:∀ x,S.A.F x->zlj (H x):=λx hx=>I.bk.loose hx
 have tk:zfz H H':=zkb s lo
 obtain⟨⟨dx,e1⟩,e2,e3,e4,e5,e6,e7,e8,e9⟩:=I
 obtain⟨dl,el⟩:=e2.ob
 refine⟨⟨dx,s _ _ e1 λz=>(lo _ z).2 _ _ _ e1⟩,e2.sb s λz=>(lo _ z).2 _ _ _ el,B,s _ _ e4 e6,λz v h=> ?_,e6,e7,⟨(e8.keep tk).1,λc hc=> ?_⟩,λk v' hk hv=> ?_⟩
 ·obtain⟨k,ek,hk⟩:=e5 z v h
  exact⟨k,ek,by rw[List.length_append];omega⟩
 ·rcases List.mem_append.mp hc with y | y
  ·exact(e8.keep tk).2 c y
  ·rw[List.mem_singleton.mp y];exact g
 ·rw[zdw]at hv
  have:=hn k hk
  by_cases hp:i=k / w/\j=k % w
  ·rw[if_pos hp]at this
   rw[if_pos ⟨by omega,by omega⟩]at hv
   cases hv
   exact this
  ·rw[if_neg hp]at this
   rw[if_neg λy=>hp ⟨by omega,by omega⟩]at hv
   rw[this]
   exact(e9 k v' hk hv).keep tk
theorem zsm{w k k':Nat}(h1:k / w=k' / w)(h2:k % w=k' % w):k=k':=by
 rw[<-Nat.div_add_mod k w,<-Nat.div_add_mod k' w,h1,h2]
theorem zrh{S:SA}{n r c w:Nat}{rows:List (List V)}{nn:Nat}{cs:List Ch}{outs:Int->Bool}{tks:List (Key × V)}{nm:Nat->Option (Str × Nat)}{cell rec need:Nat}{z:Str}{nl:Addr}{ns:List Int}{H2:Hp}(T4:TS4 K a)(I:StAt a H S n r c w rows nn cs outs tks nm)(hc:cell<n * w)(hcs:cs.length<500)(hz:PyData.strOk z=true)(s:Same H H2)(en:H2 nl=some (.lst (ns.map V.int)))(hl:ns.length<=60)(kn:∀ x∈ns,known cs x)
  (hm:∀ x,x∈ns↔x=need\/∃ k:Nat,valV tks (.inr z)=some (.int k)/\x=k)
  (q:∀ (t:Addr) (nd:List Int) (H':Hp),NdOk nd (λx=>x=need\/(∃ k:Nat,valV tks (.inr z)=some (.int k)/\x=k)\/zt2 cs (cell / w:Nat) (cell % w:Nat) x)->StAt a H' S n r c w rows nn (cs++[⟨cell / w,cell % w,.ref t,nd⟩]) outs tks (zq7 nm cell (some (z,rec)))->H' t=some (.tup [.str z,.int rec])->SameBut S.A.F H H'->Q (.int cs.length) H') :
  rd_Store_fill_cell_4 K a (λ_=>E) (λ_=>E) (ends Q) [some (.ref S.st),some (.int cell),some (.str z),some (.int rec),some (.int need),some (.ref nl)] H2:=by
 obtain⟨T,TP,TL,TS⟩:=T4
 obtain⟨dx,ho⟩:=I.ob
 obtain⟨dl,el⟩:=I.ly.ob
 obtain⟨db,eb⟩:=I.bk.bk.ob
 have on:=znd I hc
 push_cast[↓zgm]
 refine⟨_,_,_,s _ _ ho,TS.cl,TS.n2,_,sf_b,S.A.b,rfl,_,_,s _ _ eb,zhr (by decide +kernel),_,_,_,s _ _ ho,TS.cl,TS.n1,_,sf_p,S.lp,rfl,_,_,s _ _ el,zgh (by decide +kernel),S.lp,n,r,c,w,cell,rfl,TL,I.ly.same s,λu hu=> ?_⟩
 have s2:=s.trans (zae (o:=.tup [.int (0+(cell:Int) / w),.int ((cell:Int) % w)]) hu)
 have eu:upd H2 u (.tup [.int (0+(cell:Int) / w),.int ((cell:Int) % w)]) u=some (.tup [.int (cell / w:Nat),.int (cell % w:Nat)]):=by rw[zac];simp
 have en2:=zae (o:=.tup [.int (0+(cell:Int) / w),.int ((cell:Int) % w)]) hu _ _ en
 revert s2 eu en2
 generalize upd H2 u (.tup [.int (0+(cell:Int) / w),.int ((cell:Int) % w)])=H3
 intro s2 eu en2
 push_cast[]
 refine⟨by decide,λt ht=> ?_⟩
 have st:=zae (o:=.tup [V.str z,V.int rec]) ht
 have s4:=s2.trans st
 have et:upd H3 t (.tup [V.str z,V.int rec]) t=some (.tup [V.str z,V.int rec]):=zac
 have eu4:=st _ _ eu
 have en4:=st _ _ en2
 revert s4 et eu4 en4
 generalize upd H3 t (.tup [V.str z,V.int rec])=H4
 intro s4 et eu4 en4
 refine⟨S.A,w,rows,nn,cs,outs,u,nl,.ref t,ns,(cell / w:Nat),(cell % w:Nat),rfl,T,TP,I.bk.same s4,eu4,SqL.of en4,hl,hcs,λ_ _ nd H5 pw mem B5 sb5=> ?_,λy=>absurd on y,λ_ ⟨x,hx,hk⟩=>absurd (kn x hx) hk⟩
 rw[Int.toNat_natCast,Int.toNat_natCast]at B5
 have I4:=I.same s4
 have et5:H5 t=some (.tup [V.str z,V.int rec]):=sb5 _ _ et λy=>(I4.bk.loose y).1 _ et
 refine q t nd H5 ⟨pw,λx=>by rw[mem x,hm x,or_assoc]⟩ (I4.snoc B5 sb5 ⟨_,et5,by simp,λv hv=> ?_⟩ λk hk=> ?_) et5 λb o e n=>sb5 _ _ (s4 _ _ e) n
 ·simp only[List.mem_cons,List.not_mem_nil,or_false]at hv
  rcases hv with rfl | rfl
  ·exact hz
  ·trivial
 ·by_cases h:cell / w=k / w/\cell % w=k % w
  ·rw[if_pos h]
   have:=zsm h.1 h.2
   subst this
   unfold zq7
   rw[if_pos rfl]
   exact⟨t,rfl,et5⟩
  ·rw[if_neg h]
   unfold zq7
   rw[if_neg λy=>h ⟨by rw[y],by rw[y]⟩]
theorem zh0(h:zba K a vs H Q E):zde K a (λ_=>E) (ends Q) (zby ["self","cell","name","record","need","needs"] vs) H:=by
  obtain⟨S,n,r,c,w,rows,nn,cs,outs,tks,nm,cell,rec,need,z,rfl,⟨T,TP,TL,TS⟩,I,hc,hn,hcs,hz,q⟩:=h
  obtain⟨dx,ho⟩:=I.ob
  obtain⟨dl,el⟩:=I.ly.ob
  obtain⟨db,eb⟩:=I.bk.bk.ob
  have on:=znd I hc
  push_cast[zde,↓zgj,↓zgl]
  refine⟨by decide,λnl hnl=> ?_⟩
  have s1:=zae (o:=.lst [V.int need]) hnl
  refine⟨_,_,_,s1 _ _ ho,TS.cl,TS.n3,_,sf_t,S.tk,rfl,_,dS (s1 _ _ I.tk),?_⟩
  have e1:upd H nl (.lst [V.int need]) nl=some (.lst [V.int need]):=zac
  have kn:known cs (need:Int):=⟨by omega,by omega⟩
  cases hv:valV tks (.inr z)with
  | none =>
    rw[if_neg (by simp)]
    refine zrh (ns:=[(need:Int)]) ⟨T,TP,TL,TS⟩ I hc hcs hz s1 e1 (by simp) (λx hx=>by rw[List.mem_singleton.mp hx];exact kn) (λx=> ?_) q
    rw[hv]
    simp
  | some v =>
    obtain⟨k,rfl,hk⟩:=I.tv z v hv
    rw[if_pos (by simp)]
    push_cast[↓zgk]
    refine⟨.inl ⟨rfl,_,SqL.of e1⟩,_,_,_,s1 _ _ ho,TS.cl,TS.n3,_,sf_t,S.tk,rfl,_,dS' (s1 _ _ I.tk) hv,nl,_,_,rfl,rfl,e1,(by show 1<sizeLine;decide),?_⟩
    rw[zf9]
    refine zrh (ns:=[(need:Int),(k:Int)]) ⟨T,TP,TL,TS⟩ I hc hcs hz (zae hnl) zac (by simp) (λx hx=> ?_) (λx=> ?_) q
    · simp only[List.mem_cons,List.not_mem_nil,or_false]at hx
      rcases hx with rfl | rfl
      ·exact kn
      ·exact⟨by omega,by omega⟩
    · rw[hv]
      simp only[List.mem_cons,List.not_mem_nil,or_false,Option.some.injEq,V.int.injEq]
      refine or_congr Iff.rfl ⟨λe=>⟨k,rfl,e⟩,λ⟨k',e1,e2⟩=>by omega⟩
theorem zjc(h:zba K a vs H Q E):vs.length=5:=by
 obtain⟨_,_,_,_,_,_,_,_,_,_,_,_,_,_,_,rfl,_⟩:=h
 rfl
theorem zxw{f:Nat->Bool}{m k:Nat}(h:lowF f m=k):k<m:=by
  unfold lowF at h
  cases e:(List.range m).find? f with
  | none=>rw[e]at h;simp at h
  | some k' =>
    rw[e]at h
    have:=List.mem_range.mp (List.mem_of_find?_eq_some e)
    simp at h
    omega
theorem zs9{z:Str}(h:zd2 z=true):PyData.strOk z=true:=by
 unfold zd2 at h
 rw[Bool.and_eq_true]at h
 have h:=h.2
 unfold PyData.strOk
 rw[<-Array.all_toList]
 rw[List.all_eq_true]at h ⊢
 intro c hc
 have:=h c hc
 simp only[zhp,Bool.and_eq_true,decide_eq_true_eq]at this ⊢
 omega
theorem zri{S:SA}{n r c w:Nat}{rows:List (List V)}{nn:Nat}{cs:List Ch}{outs:Int->Bool}{tks:List (Key × V)}{nm:Nat->Option (Str × Nat)}{i j:Nat}{v:V}{u nl:Addr}{ns:List Int}(T4:TS4 K a)(I:StAt a H S n r c w rows nn cs outs tks nm)(hu:H u=some (.tup [.int i,.int j]))(hn:H nl=some (.lst (ns.map V.int)))(hl:ns.length<=60)(hcs:cs.length<500)(hi:i<rows.length)(hj:j<w)(kn:∀ x∈ns,known cs x)(g:GoodV 4 H v)(hin:n<=i)
  (q:∀ nd H',NdOk nd (λx=>x∈ns\/zt2 cs i j x)->StAt a H' S n r c w rows nn (cs++[⟨i,j,v,nd⟩]) outs tks nm->SameBut S.A.F H H'->Q (.int cs.length) H'):za6 K a [.ref S.A.b,.ref u,v,.ref nl] H Q E:=by
 obtain⟨T,TP,TL,TS⟩:=T4
 have on:onPl rows w i j:=⟨Int.natCast_nonneg _,by omega,Int.natCast_nonneg _,by omega⟩
 refine⟨S.A,w,rows,nn,cs,outs,u,nl,v,ns,i,j,rfl,T,TP,I.bk,hu,SqL.of hn,hl,hcs,λ_ _ nd H5 pw mem B5 sb5=> ?_,λy=>absurd on y,λ_ ⟨x,hx,hk⟩=>absurd (kn x hx) hk⟩
 rw[Int.toNat_natCast,Int.toNat_natCast]at B5
 refine q nd H5 ⟨pw,mem⟩ (I.snoc B5 sb5 (g.keep (zkb sb5 λx hx=>I.bk.loose hx)) λk hk=> ?_) sb5
 have hd:k / w<n:=Nat.div_lt_of_lt_mul (by rw[Nat.mul_comm];exact hk)
 rw[if_neg λy=>by omega]
theorem znf(h:zbt K a vs H Q E):zfd K a (λ_=>E) (ends Q) (zby ["self","name","record","cell","mark","stands"] vs) H:=by
  obtain⟨S,n,r,c,w,rows,nn,cs,outs,tks,nm,z,rfl,T4,I,hzl,hcs,q,q1,q2,q3⟩:=h
  obtain⟨dx,ho⟩:=I.ob
  obtain⟨dl,el⟩:=I.ly.ob
  obtain⟨db,eb⟩:=I.bk.bk.ob
  have hsz:=I.sz
  push_cast[zfd,↓zj2]
  refine⟨_,_,ho,zpo (by decide +kernel),by decide,λgl hgl=> ?_⟩
  have s1:=zae (o:=.lst [V.str z]) hgl
  refine⟨S,n,r,c,w,rows,nn,cs,outs,tks,nm,z,gl,[z],rfl,T4,I.same s1,zac,by simp,λy hy=>by rw[List.mem_singleton.mp hy];exact hzl,λhb hc H2 s2=> ?_,λhb H2 s2=>q1 (by simpa using hb) _ (s1.trans s2),λhb hc H2 s2=>q2 (by simpa using hb) hc _ (s1.trans s2)⟩
  have hb:zd2 z=true:=by simpa using hb
  have s12:=s1.trans s2
  clear s1 s2 hgl
  obtain⟨T,TP,TL,TS⟩:=T4
  push_cast[↓zj3]
  refine⟨_,_,_,s12 _ _ ho,TS.cl,TS.n1,_,sf_p,_,_,_,s12 _ _ ho,TS.cl,TS.n2,_,sf_b,S.lp,S.A.b,rfl,S.A,n,r,c,w,rows,nn,cs,outs,rfl,T,TP,TL,I.ly.same s12,hsz.1,hsz.2.1,hsz.2.2.1,hsz.2.2.2.1,I.bk.same s12,hsz.2.2.2.2,λi j v hv=>(zrd I.gd hv).keep s12.tk,λrec er H3 s3=> ?_,λer H3 s3=>q3 hb hc (.inl er) _ (s12.trans s3)⟩
  have s13:=s12.trans s3
  clear s12 s3
  push_cast[↓zj4]
  refine⟨_,_,_,s13 _ _ ho,TS.cl,TS.n1,_,sf_p,_,_,_,s13 _ _ ho,TS.cl,TS.n2,_,sf_b,S.lp,S.A.b,rfl,S.A,n,r,c,w,rows,nn,cs,outs,rfl,T,TP,TL,I.ly.same s13,hsz.1,hsz.2.1,hsz.2.2.1,hsz.2.2.2.1,I.bk.same s13,hsz.2.2.2.2,λi j v hv=>(zrd I.gd hv).keep s13.tk,λcell ec H4 s4=> ?_,λer H3 s3=>q3 hb hc (.inr er) _ (s13.trans s3)⟩
  have s14:=s13.trans s4
  clear s13 s4
  push_cast[↓zj5]
  have hw1:=I.ly.h1
  have hrec:rec<r * w:=by
    have:=zxw er
    unfold ze8 at this
    simpa using this
  have hcell:cell<n * w:=by
    have:=zxw ec
    unfold ze8 at this
    simpa using this
  have hrd:rec / w<r:=Nat.div_lt_of_lt_mul (by rw[Nat.mul_comm];exact hrec)
  have hrm:rec % w<w:=Nat.mod_lt _ (by omega)
  have hi1:n+r+c+rec / w<rows.length/\n+rec / w<rows.length/\n<=n+r+c+rec / w/\n<=n+rec / w:=by
    rw[hsz.2.2.2.2]
    generalize rec / w=d at hrd ⊢
    omega
  refine⟨_,_,_,s14 _ _ ho,TS.cl,TS.n2,_,sf_b,S.A.b,rfl,_,_,s14 _ _ eb,zhr (by decide +kernel),_,_,_,s14 _ _ ho,TS.cl,TS.n1,_,sf_p,S.lp,rfl,_,_,s14 _ _ el,zgh (by decide +kernel),S.lp,n,r,c,w,rec,rfl,TL,I.ly.same s14,λu hu=>⟨by decide,λl0 hl0=> ?_⟩⟩
  have I5:=(I.same s14).same ((zae (o:=.tup [.int (n+r+c+(rec:Int) / w),.int ((rec:Int) % w)]) hu).trans (zae (o:=.lst []) hl0))
  have s5:=s14.trans ((zae (o:=.tup [.int (n+r+c+(rec:Int) / w),.int ((rec:Int) % w)]) hu).trans (zae (o:=.lst []) hl0))
  have eu:upd (upd H4 u (.tup [.int (n+r+c+(rec:Int) / w),.int ((rec:Int) % w)])) l0 (.lst []) u=some (.tup [.int (n+r+c+rec / w:Nat),.int (rec % w:Nat)]):=by
    rw[zah (zak zac hl0),zac];simp
  have el0:upd (upd H4 u (.tup [.int (n+r+c+(rec:Int) / w),.int ((rec:Int) % w)])) l0 (.lst []) l0=some (.lst (([]:List Int).map V.int)):=zac
  revert I5 s5 eu el0
  generalize upd (upd H4 u (.tup [.int (n+r+c+(rec:Int) / w),.int ((rec:Int) % w)])) l0 (.lst [])=H5
  intro I5 s5 eu el0
  refine zri ⟨T,TP,TL,TS⟩ I5 eu el0 (by simp) (by omega) hi1.1 hrm (λx hx=>by cases hx) trivial hi1.2.2.1 λnd1 H6 d1 I6 sb6=> ?_
  obtain⟨dx6,ho6⟩:=I6.ob
  obtain⟨dl6,el6⟩:=I6.ly.ob
  obtain⟨db6,eb6⟩:=I6.bk.bk.ob
  push_cast[↓zj6]
  refine⟨_,_,_,ho6,TS.cl,TS.n2,_,sf_b,S.A.b,rfl,_,_,eb6,zhr (by decide +kernel),_,_,_,ho6,TS.cl,TS.n1,_,sf_p,S.lp,rfl,_,_,el6,zgh (by decide +kernel),S.lp,n,r,c,w,rec,rfl,TL,I6.ly,λu2 hu2=> ?_⟩
  push_cast[]
  refine⟨by decide,λe6 he6=>⟨by decide,λt6 ht6=>⟨by decide,λl6 hl6=> ?_⟩⟩⟩
  have sa:=zae (o:=.tup [.int (n+(rec:Int) / w),.int ((rec:Int) % w)]) hu2
  have sb:=zae (o:=.tup []) he6
  have sc:=zae (o:=.tup [.int 1,.ref e6]) ht6
  have sd:=zae (o:=.lst [.int cs.length]) hl6
  have sall:=((sa.trans sb).trans sc).trans sd
  have f1:=sd _ _ (sc _ _ (sb _ _ (zac (H:=H6) (a:=u2) (o:=.tup [.int (n+(rec:Int) / w),.int ((rec:Int) % w)]))))
  have f2:=sd _ _ (sc _ _ (zac (H:=upd H6 u2 (.tup [.int (n+(rec:Int) / w),.int ((rec:Int) % w)])) (a:=e6) (o:=.tup [])))
  have f3:=sd _ _ (zac (H:=upd (upd H6 u2 (.tup [.int (n+(rec:Int) / w),.int ((rec:Int) % w)])) e6 (.tup [])) (a:=t6) (o:=.tup [.int 1,.ref e6]))
  have f4:=zac (H:=upd (upd (upd H6 u2 (.tup [.int (n+(rec:Int) / w),.int ((rec:Int) % w)])) e6 (.tup [])) t6 (.tup [.int 1,.ref e6])) (a:=l6) (o:=.lst [.int cs.length])
  revert sall f1 f2 f3 f4
  generalize upd (upd (upd (upd H6 u2 (.tup [.int (n+(rec:Int) / w),.int ((rec:Int) % w)])) e6 (.tup [])) t6 (.tup [.int 1,.ref e6])) l6 (.lst [.int cs.length])=H7
  clear sa sb sc sd
  intro s67 f1 f2 f3 f4
  rw[show(HO.tup [V.int (n+(rec:Int) / w),V.int ((rec:Int) % w)])=.tup [.int (n+rec / w:Nat),.int (rec % w:Nat)] by simp]at f1
  have I7:=I6.same s67
  refine zri (ns:=[(cs.length:Int)]) ⟨T,TP,TL,TS⟩ I7 f1 f4 (by simp) (by simp;omega) hi1.2.1 hrm (λx hx=> ?_) ⟨_,f3,by simp,λv hv=> ?_⟩ hi1.2.2.2 λnd2 H8 d2 I8 sb8=> ?_
  · rw[List.mem_singleton.mp hx]
    exact⟨by omega,by simp;omega⟩
  · simp only[List.mem_cons,List.not_mem_nil,or_false]at hv
    rcases hv with rfl | rfl
    ·trivial
    ·exact⟨_,f2,by simp,λv hv=>by cases hv⟩
  obtain⟨dx8,ho8⟩:=I8.ob
  push_cast[↓zj7]
  have hlen:(cs++[(⟨n+r+c+rec / w,rec % w,.int 1,nd1⟩:Ch)]).length=cs.length+1:=by simp
  rw[hlen]
  refine⟨_,_,ho8,zpo (by decide +kernel),S,n,r,c,w,rows,nn,_,outs,tks,nm,cell,rec,cs.length+1,z,rfl,⟨T,TP,TL,TS⟩,I8,hcell,by simp,by simp;omega,zs9 hb,λt9 nd3 H9 d3 I9 et9 sb9=>⟨by decide,λl hl=> ?_⟩⟩
  have hlen2:(cs++[(⟨n+r+c+rec / w,rec % w,.int 1,nd1⟩:Ch)]++[(⟨n+rec / w,rec % w,.ref t6,nd2⟩:Ch)]).length=cs.length+2:=by simp
  rw[hlen2]
  have sl:=zae (o:=.lst [.int cs.length,.int (cs.length+1:Nat),.int (cs.length+2:Nat)]) hl
  have sb:SameBut S.A.F H H9:=(((Same.sb s5).trans sb6).trans ((Same.sb s67).trans sb8)).trans sb9
  have k8:zfz H7 H8:=zkb sb8 λx hx=>I7.bk.loose hx
  have k9:zfz H8 H9:=zkb sb9 λx hx=>I8.bk.loose hx
  refine q hb hc rec cell er ec l _ _ _ _ ?_ ⟨⟨rfl,rfl,rfl⟩,⟨rfl,rfl,t6,e6,rfl,sl _ _ (k9 _ _ (k8 _ _ f3)),sl _ _ (k9 _ _ (k8 _ _ f2))⟩,⟨rfl,rfl,t9,rfl,sl _ _ et9⟩,⟨d1.1,λx=>by rw[d1.2 x];simp⟩,⟨d2.1,λx=>by rw[d2.2 x];simp⟩,⟨d3.1,λx=>by rw[d3.2 x];simp⟩⟩ zac (I9.same sl) (sb.trans (Same.sb sl))
  cases e:H l with
  | none=>rfl
  | some o =>
    have:=sb _ _ e (I9.bk.off hl)
    rw[hl]at this
    cases this
theorem zn0(h:zbt K a vs H Q E):vs.length=2:=by
 obtain⟨_,_,_,_,_,_,_,_,_,_,_,_,rfl,_⟩:=h
 rfl
theorem zz1:∀ i:Fin 26,(Str.ofString "abcdefghijklmnopqrstuvwxyz").cps.toList[i.val]? =some (97+i.val):=by decide +kernel
theorem zvw{i:Int}{n:Nat}{Q:VK}(hi:i=n)(hn:n<26)(q:Q (.str ⟨#[97+n]⟩) H):rIxA K (.str (Str.ofString "abcdefghijklmnopqrstuvwxyz")) (.int i) H Q:=zz0 hi (by decide +kernel) (zz1 ⟨n,hn⟩) q
theorem zpp(x y:Str):(x++y).cps.toList=x.cps.toList++y.cps.toList:=by
 show(x.cps++y.cps).toList=_
 simp
theorem zpq(h:zdf K a vs H Q E):zgi K a (λ_=>E) (ends Q) (zby ["k","cell","letters","ahead","j"] vs) H:=by
 obtain⟨k,x,rfl,q⟩:=h
 push_cast[zgi,↓zlk,↓zll,↓zln]
 obtain⟨m,em,hm⟩:∃ m:Nat,x % 6=m/\m<=5:=⟨(x % 6).toNat,by omega,by omega⟩
 rw[em,Int.toNat_natCast]
 refine⟨by omega,by omega,ztq (λi σ H'=>(∃ p:Str,Same H H'/\p.length=i/\p.cps.toList.all zhp=true/\∃ y,σ=[some (.int k),some (.int x),some (.str (Str.ofString "abcdefghijklmnopqrstuvwxyz")),some (.str p),y])) ⟨Str.ofString "",Same.refl _,by decide +kernel,by decide +kernel,_,rfl⟩ (λi σ H' hi ⟨p,s,hl,ha,y,ez⟩=> ?_) (λσ H' ⟨p,s,hl,ha,y,ez⟩=> ?_)⟩
 ·subst ez
  push_cast[↓zlm]
  refine⟨by decide,λt ht=> ?_⟩
  have st:=s.trans (zae (o:=.lst [V.int 6,V.int 156,V.int 4056,V.int 105456,V.int 2741856]) ht)
  obtain⟨d,ed,hd⟩:∃ d:Int,[V.int 6,V.int 156,V.int 4056,V.int 105456,V.int 2741856][i]? =some (.int d)/\CDiv x d:=by
   rcases(by omega:i=0\/i=1\/i=2\/i=3\/i=4)with z | z | z | z | z<;>subst z<;>exact⟨_,rfl,by decide,by decide⟩
  refine zqq (SqL.of zac) (n:=i) (by omega) ed ?_
  push_cast[]
  obtain⟨b,eb,hb⟩:=zxi (x / d) (n:=26) (by omega)
  rw[show((26:Nat):Int)=26 from rfl]at eb
  rw[eb]
  refine⟨hd,zvw rfl hb ?_⟩
  push_cast[]
  have h1:(Str.mk #[97+b]).length=1:=rfl
  refine⟨small _ (by omega),st,p++(⟨#[97+b]⟩:Str),by rw[zpn];omega,?_,rfl⟩
  rw[zpp,List.all_append,ha]
  simp[zhp]
  omega
 ·subst ez
  push_cast[↓zlo]
  have h1:∀ b,(Str.mk #[97+b]).length=1:=λb=>rfl
  refine⟨⟨by decide,by decide⟩,zvw (n:=k / 26 % 26) (by omega) (by omega) ?_⟩
  push_cast[]
  refine⟨small _ (by rw[h1];omega),zvw (n:=k % 26) (by omega) (by omega) ?_⟩
  push_cast[]
  have hL:(p++(⟨#[97+k / 26 % 26]⟩:Str)++(⟨#[97+k % 26]⟩:Str)).length=m+2:=by rw[zpn,zpn,h1,h1];omega
  have hC:(p++(⟨#[97+k / 26 % 26]⟩:Str)++(⟨#[97+k % 26]⟩:Str)).cps.toList=p.cps.toList++[97+k / 26 % 26,97+k % 26]:=by rw[zpp,zpp];simp
  refine⟨small _ (by rw[zpn,h1,h1];omega),q _ _ ?_ s⟩
  have hN:zd2 (p++(⟨#[97+k / 26 % 26]⟩:Str)++(⟨#[97+k % 26]⟩:Str))=true:=by
   unfold zd2
   rw[hL,hC,List.all_append,ha]
   simp[zhp]
   omega
  exact⟨hN,zs9 hN,_,hC⟩
theorem zrj(h:zdf K a vs H Q E):vs.length=2:=by
 obtain⟨_,_,rfl,_⟩:=h
 rfl
section
variable{S:SA}{n r w:Nat}{rows:List (List V)}{nn:Nat}{cs:List Ch}{zs:List Str}
theorem L41.same{H':Hp}(I:L41 a H S n r w rows nn cs zs)(s:Same H H'):L41 a H' S n r w rows nn cs zs:=by
 obtain⟨e1,e2,e3,e4,e5,e6,e7,e8⟩:=I
 exact⟨e1.same s,e2,e3,e4,e5,e6,e7,e8⟩
theorem zvx{z:Str}{k k':Nat}(h:isNm z k)(h':isNm z k')(hk:k<600)(hk':k'<600):k=k':=by
 obtain⟨_,_,p,e⟩:=h
 obtain⟨_,_,p',e'⟩:=h'
 rw[e]at e'
 have:=List.append_inj' e' rfl
 have h2:=this.2
 simp only[List.cons.injEq]at h2
 omega
theorem L41.small(I:L41 a H S n r w rows nn cs zs):zs.length<=36:=Nat.le_trans I.hn (Nat.mul_le_mul I.st.sz.1 I.st.sz.2.2.2.1)
theorem L41.fresh(I:L41 a H S n r w rows nn cs zs){z:Str}(hz:isNm z zs.length):cellOf (nm41 zs) (n * w) z=none:=zrg λj hj=>by
  unfold nm41
  cases e:zs[j]? with
  | none=>rfl
  | some y =>
    have hjl:=(List.getElem?_eq_some_iff.mp e).1
    have:=I.small
    simp only[Option.map_some,Option.any_some,decide_eq_false_iff_not]
    intro ey
    have hy:=I.nz j y e
    rw[ey]at hy
    have:=zvx hy hz (by omega) (by omega)
    omega
theorem L41.low1(I:L41 a H S n r w rows nn cs zs):lowR cs rows n r 1 w 1=if zs.length<r * w then(zs.length:Int)else -1:=by
 have hf:∀ k,k<r * w->zmw cs rows n r 1 w 1 k= !decide (k<zs.length):=λk hk=>by
  unfold zmw
  rw[show kBlk n r 1 w 1 k=n+r+1+k / w from by simp[kBlk],I.mks k hk]
  by_cases h:k<zs.length
  ·rw[if_pos h];simp[zsc,h]
  ·rw[if_neg h];simp[zsc,h]
 unfold lowR
 rw[show ze8 n r 1 w 1=r * w from by simp[ze8]]
 split
 ·rename_i h
  exact zvt h (by rw[hf _ h];simp) λj hj=>by rw[hf _ (by omega)];simpa using hj
 ·rename_i h
  exact zpk λj hj=>by rw[hf _ hj];have:=I.hr;simp;omega
theorem L41.low0(I:L41 a H S n r w rows nn cs zs):lowR cs rows n r 1 w 0=if zs.length<n * w then(zs.length:Int)else -1:=by
 have hf:∀ k,k<n * w->zmw cs rows n r 1 w 0 k= !decide (k<zs.length):=λk hk=>by
  unfold zmw
  rw[show kBlk n r 1 w 0 k=k / w from by simp[kBlk]]
  obtain⟨v,ev⟩:∃ v,zda cs rows (k / w:Nat) (k % w:Nat)=some v:=by
   have:=znd I.st hk
   exact zxv (λr' hr'=>I.st.bk.pk.wd r' hr') (by have:=this.2.1;omega) (by have:=this.2.2.2;omega) cs
  have hv:=I.st.nms k v hk ev
  rw[ev]
  unfold nm41 at hv
  by_cases h:k<zs.length
  ·rw[List.getElem?_eq_getElem h]at hv
   obtain⟨t,rfl,_⟩:=hv
   simp[zsc,h]
  ·rw[List.getElem?_eq_none (by omega)]at hv
   rw[show v=.non from hv]
   simp[zsc,h]
 unfold lowR
 rw[show ze8 n r 1 w 0=n * w from by simp[ze8]]
 split
 ·rename_i h
  exact zvt h (by rw[hf _ h];simp) λj hj=>by rw[hf _ (by omega)];simpa using hj
 ·rename_i h
  exact zpk λj hj=>by rw[hf _ hj];have:=I.hn;simp;omega
theorem zxj(z:Str):zq7 (nm41 zs) zs.length (some (z,zs.length))=nm41 (zs++[z]):=by
 funext k
 unfold zq7 nm41
 rcases Nat.lt_trichotomy k zs.length with h | h | h
 ·rw[if_neg (by omega),List.getElem?_append_left h]
 ·subst h;simp
 ·rw[if_neg (by omega),List.getElem?_eq_none (by omega),List.getElem?_eq_none (by simp;omega)]
theorem zz2{nd:List Int}(h:∀ x,¬ x∈nd):nd=[]:=List.eq_nil_iff_forall_not_mem.mpr h
theorem zxx{nd:List Int}{y:Int}(hp:nd.Pairwise (· <·))(h:∀ x,x∈nd↔x=y):nd=[y]:=by
  cases nd with
  | nil=>have:=(h y).mpr rfl;cases this
  | cons x l =>
    have hx:=(h x).mp List.mem_cons_self
    cases l with
    | nil=>rw[hx]
    | cons x' l' =>
      have hx':=(h x').mp (List.mem_cons_of_mem _ List.mem_cons_self)
      have:=(List.pairwise_cons.mp hp).1 x' List.mem_cons_self
      omega
theorem zz3(I:L41 a H S n r w rows nn cs zs){i j:Nat}(h1:zs.length<n * w)(h2:zs.length<r * w)(hp:plc n r w i j zs.length):zbs cs i j=none:=by
  cases e:zbs cs i j with
  | none=>rfl
  | some k =>
    obtain⟨c,ec,hb,hc⟩:=zpe e
    obtain⟨k',hk',hj,hi⟩:=I.fr c (List.mem_of_getElem? ec)
    obtain⟨hpj,hpi⟩:=hp
    have d1:zs.length / w<n:=Nat.div_lt_of_lt_mul (by rw[Nat.mul_comm];exact h1)
    have d2:zs.length / w<r:=Nat.div_lt_of_lt_mul (by rw[Nat.mul_comm];exact h2)
    have d3:k' / w<n:=Nat.div_lt_of_lt_mul (by rw[Nat.mul_comm];omega)
    have d4:k' / w<r:=Nat.div_lt_of_lt_mul (by rw[Nat.mul_comm];omega)
    have hm:k' % w=zs.length % w:=by omega
    have hd:k' / w≠zs.length / w:=λy=>by have:=zsm y hm;omega
    exfalso
    generalize k' / w=x at *
    generalize zs.length / w=y at *
    omega
theorem L41.next{H':Hp}{z:Str}{c1 c2 c3:Ch}(I:L41 a H S n r w rows nn cs zs)(hz:isNm z zs.length)(h1:zs.length<n * w)(h2:zs.length<r * w)(M:Made H' n r 1 w cs [] zs.length zs.length z c1 c2 c3)(st:StAt a H' S n r 1 w rows nn (cs++[c1]++[c2]++[c3]) (λ_=>false) [] (zq7 (nm41 zs) zs.length (some (z,zs.length)))) :
  L41 a H' S n r w rows nn (cs++[c1]++[c2]++[c3]) (zs++[z])/\c1.nd=[]/\c2.nd=[(cs.length:Int)]/\c3.nd=[(cs.length:Int)+1] ∧
  zda (cs++[c1]++[c2]++[c3]) rows (n+r+1+zs.length / w:Nat) (zs.length % w:Nat)=some (.int 1)/\zda (cs++[c1]++[c2]++[c3]) rows (n+zs.length / w:Nat) (zs.length % w:Nat)=some c2.val/\zda (cs++[c1]++[c2]++[c3]) rows (zs.length / w:Nat) (zs.length % w:Nat)=some c3.val:=by
 obtain⟨b1,j1,v1,nd1⟩:=c1
 obtain⟨b2,j2,v2,nd2⟩:=c2
 obtain⟨b3,j3,v3,nd3⟩:=c3
 obtain⟨⟨p1,p2,p3⟩,⟨p4,p5,t2,e2,p6,p7,p8⟩,⟨p9,p10,t3,p11,p12⟩,d1,d2,d3⟩:=M
 dsimp only at p1 p2 p3 p4 p5 p6 p9 p10 p11 d1 d2 d3 ⊢
 subst p1 p2 p3 p4 p5 p6 p9 p10 p11
 have dn:zs.length / w<n:=Nat.div_lt_of_lt_mul (by rw[Nat.mul_comm];exact h1)
 have dr:zs.length / w<r:=Nat.div_lt_of_lt_mul (by rw[Nat.mul_comm];exact h2)
 rw[zxj]at st
 have n1:=zz3 I h1 h2 (i:=n+r+1+zs.length / w) (j:=zs.length % w) ⟨rfl,.inl rfl⟩
 have n2:=zz3 I h1 h2 (i:=n+zs.length / w) (j:=zs.length % w) ⟨rfl,.inr (.inl rfl)⟩
 have n3:=zz3 I h1 h2 (i:=zs.length / w) (j:=zs.length % w) ⟨rfl,.inr (.inr rfl)⟩
 refine⟨⟨st,by have:=I.ln;simp;omega,λk hk=> ?_,λc hc=> ?_,by simp;omega,by simp;omega,λk y hy=> ?_,I.p1⟩,?_,?_,?_,?_,?_,?_⟩
 ·have dk:k / w<r:=Nat.div_lt_of_lt_mul (by rw[Nat.mul_comm];exact hk)
  have hml:=I.mks k hk
  have hcase:(n+r+1+zs.length / w=n+r+1+k / w/\zs.length % w=k % w)↔k=zs.length:=⟨λ⟨y1,y2⟩=>(zsm (by omega) y2).symm,λy=>by rw[y];exact⟨rfl,rfl⟩⟩
  rw[zdw,if_neg (by generalize k / w=x at *;generalize zs.length / w=y at *;omega),zdw,if_neg (by generalize k / w=x at *;generalize zs.length / w=y at *;omega),zdw]
  by_cases hkm:k=zs.length
  ·subst hkm
   rw[if_pos ⟨rfl,rfl⟩,if_pos (by simp)]
  ·rw[if_neg (λy=>hkm (hcase.mp ⟨by have:=y.1;omega,by have:=y.2;omega⟩)),hml]
   simp only[List.length_append,List.length_singleton]
   by_cases hl:k<zs.length
   ·rw[if_pos hl,if_pos (by omega)]
   ·rw[if_neg hl,if_neg (by omega)]
 ·simp only[List.mem_append,List.mem_singleton]at hc
  rcases hc with((hc | rfl) | rfl) | rfl
  ·obtain⟨k,hk,hp⟩:=I.fr c hc
   exact⟨k,by simp;omega,hp⟩
  ·exact⟨zs.length,by simp,rfl,.inl rfl⟩
  ·exact⟨zs.length,by simp,rfl,.inr (.inl rfl)⟩
  ·exact⟨zs.length,by simp,rfl,.inr (.inr rfl)⟩
 ·rcases Nat.lt_or_ge k zs.length with y | y
  ·rw[List.getElem?_append_left y]at hy;exact I.nz k _ hy
  ·have hk:=(List.getElem?_eq_some_iff.mp hy).1
   simp at hk
   have:k=zs.length:=by omega
   subst this
   simp at hy
   subst hy
   exact hz
 ·refine zz2 λx hx=> ?_
  obtain⟨k,ek,_⟩:=(d1.2 x).mp hx
  rw[n1]at ek;cases ek
 ·refine zxx d2.1 λx=> ?_
  rw[d2.2 x]
  refine⟨λy=>y.elim id λ⟨k,ek,_⟩=> ?_,.inl⟩
  rw[zd8,if_neg (by dsimp only;generalize zs.length / w=y at *;omega),n2]at ek;cases ek
 ·refine zxx d3.1 λx=> ?_
  rw[d3.2 x]
  refine⟨λy=>y.elim id λy=>y.elim (λ⟨k,ek,_⟩=>by simp[valV]at ek) λ⟨k,ek,_⟩=> ?_,.inl⟩
  rw[zd8,if_neg (by dsimp only;have:=I.p1;generalize zs.length / w=y at *;omega),zd8,if_neg (by dsimp only;have:=I.p1;generalize zs.length / w=y at *;omega),n3]at ek;cases ek
 ·rw[zdw,if_neg (by generalize zs.length / w=y at *;omega),zdw,if_neg (by generalize zs.length / w=y at *;omega),zdw,if_pos ⟨rfl,rfl⟩]
 ·rw[zdw,if_neg (by have:=I.p1;generalize zs.length / w=y at *;omega),zdw,if_pos ⟨rfl,rfl⟩]
 ·rw[zdw,if_pos ⟨rfl,rfl⟩]
end
theorem zng{A:BA}{w:Nat}{rows:List (List V)}{n k:Nat}{cs:List Ch}{outs:Int->Bool}{c:Ch}{x:Int}(T:TB K a)(B:BkAt a H A w rows n cs outs)(ek:cs[k]? =some c)(hx:x=k)(q:∀ l H',Same H H'->H' l=some (.lst (c.nd.map V.int))->Q (.ref l) H'):zbd K a [.ref A.b,.int x] H Q E:=by
 have hk:=(List.getElem?_eq_some_iff.mp ek).1
 refine⟨A,w,rows,n,cs,outs,x,rfl,T,B,λk' c' l H' e1 e2 _ s e3=> ?_,λhn=>absurd ⟨by omega,by omega⟩ hn⟩
 have:k'=k:=by omega
 subst this
 rw[ek]at e2
 cases e2
 exact q l H' s e3
theorem zvy{p p':Addr}{l:List Int}(h1:H p=some (.lst (l.map V.int)))(h2:H p'=some (.lst (l.map V.int)))(q:Q (.bl false) H):rNeA K (.ref p) (.ref p') H Q :=
 zq1 (n:=2) (by decide) (Dat.lst (SqL.of h1) (zjs l)) (Dat.lst (SqL.of h2) (zjs l)) q
theorem zpr(h:zdg K a vs H Q E):zgn K a (λ_=>E) (ends Q) (zby ["layout","store","name","k","told","hold"] vs) H:=by
 obtain⟨S,n,r,w,rows,nn,cs,zs,z,rfl,T4,I,hz,h1,h2,q⟩:=h
 obtain⟨dx,ho⟩:=I.st.ob
 have hsm:=I.small
 have hln:=I.ln
 push_cast[zgn,↓zlp]
 refine⟨_,_,ho,zpo (by decide +kernel),S,n,r,1,w,rows,nn,cs,_,[],_,z,rfl,T4,I.st,?_,by omega,λ_ _ rec cell er ec l c1 c2 c3 H' hl M el st sb=> ?_,λhb=>absurd hb (by rw[hz.1];simp),λ_ ⟨k,ek⟩=> ?_,λ_ _ hr=> ?_⟩
 ·have:=hz.1
  unfold zd2 at this
  simp only[Bool.and_eq_true,decide_eq_true_eq]at this
  omega
 ·rw[I.low1,if_pos h2]at er
  rw[I.low0,if_pos h1]at ec
  have er:rec=zs.length:=by omega
  have ec:cell=zs.length:=by omega
  subst er ec
  obtain⟨J,g1,g2,g3,i1,i2,i3⟩:=I.next hz h1 h2 M st
  obtain⟨T,TP,TL,TS⟩:=T4
  push_cast[↓zlq]
  have el':H' l=some (.lst (([3 * (zs.length:Int),3 * (zs.length:Int)+1,3 * (zs.length:Int)+2]:List Int).map V.int)):=by
   rw[el,hln];simp
  have cm:CMul 3 (zs.length:Int):=.inl ⟨by omega,by omega⟩
  refine zhn (.inl (.lst el)) (.ty _) (b:=true) rfl ?_
  push_cast[]
  refine⟨cm,cm,cm,by decide,λp hp=> ?_⟩
  have s1:=zae (o:=.lst [V.int (3 * zs.length),V.int (3 * zs.length+1),V.int (3 * zs.length+2)]) hp
  have d:=zjs (K:=K) (H:=upd H' p (.lst [V.int (3 * zs.length),V.int (3 * zs.length+1),V.int (3 * zs.length+2)])) (n:=1) [3 * (zs.length:Int),3 * (zs.length:Int)+1,3 * (zs.length:Int)+2]
  refine zq1 (by decide) (Dat.lst (SqL.of (s1 _ _ el')) d) (Dat.lst (SqL.of zac) d) ?_
  push_cast[]
  refine zqq (SqL.of (s1 _ _ el')) (n:=0) rfl rfl (zhn (.inl (.int _)) (.ty _) (b:=false) rfl ?_)
  push_cast[]
  revert s1
  clear d
  generalize upd H' p (.lst [V.int (3 * zs.length),V.int (3 * zs.length+1),V.int (3 * zs.length+2)])=H2
  intro s1
  obtain⟨dx2,ho2⟩:=(J.st.same s1).ob
  obtain⟨db,eb⟩:=J.st.bk.bk.ob
  obtain⟨dl,ely⟩:=J.st.ly.ob
  have ob1:onPl rows w (n+r+1+zs.length / w:Nat) (zs.length % w:Nat)/\onPl rows w (n+zs.length / w:Nat) (zs.length % w:Nat)/\onPl rows w (zs.length / w:Nat) (zs.length % w:Nat):=by
   have d2:zs.length / w<r:=Nat.div_lt_of_lt_mul (by rw[Nat.mul_comm];exact h2)
   have hm:zs.length % w<w:=Nat.mod_lt _ (by have:=J.st.ly.h1;omega)
   have hsz:=J.st.sz.2.2.2.2
   have h3:=znd I.st h1
   refine⟨⟨Int.natCast_nonneg _,?_,Int.natCast_nonneg _,h3.2.2.2⟩,⟨Int.natCast_nonneg _,?_,Int.natCast_nonneg _,h3.2.2.2⟩,h3⟩
   ·rw[hsz];generalize zs.length / w=y at *;omega
   ·rw[hsz];generalize zs.length / w=y at *;omega
  push_cast[↓zlr,↓zls]
  refine⟨_,_,ho2,zpo (by decide +kernel),S.st,dx2,S.lp,S.A.b,S.tk,rfl,TS,ho2,?_⟩
  push_cast[]
  refine⟨_,_,s1 _ _ eb,zhr (by decide +kernel),_,_,s1 _ _ ely,zgh (by decide +kernel),S.lp,n,r,1,w,zs.length,rfl,TL,J.st.ly.same s1,λu hu=> ?_⟩
  have s2:=s1.trans (zae (o:=.tup [.int (n+r+(1:Nat)+(zs.length:Int) / w),.int ((zs.length:Int) % w)]) hu)
  refine⟨S.A,w,rows,nn,_,_,u,(n+r+1+zs.length / w:Nat),(zs.length % w:Nat),rfl,T,TP,J.st.bk.same s2,by rw[zac];simp,λ_ v H3 ev s3=> ?_,λy=>absurd ob1.1 y⟩
  rw[i1]at ev
  cases ev
  push_cast[]
  have s4:=s2.trans s3
  clear s2 s3
  obtain⟨_,_,t2,e2,pv2,pt2,pe2⟩:=M.p2
  obtain⟨_,_,t3,pv3,pt3⟩:=M.p3
  rw[pv2]at i2
  rw[pv3]at i3
  refine⟨_,_,s4 _ _ eb,zhr (by decide +kernel),_,_,s4 _ _ ely,zgh (by decide +kernel),S.lp,n,r,1,w,zs.length,rfl,TL,J.st.ly.same s4,λu2 hu2=> ?_⟩
  have s5:=s4.trans (zae (o:=.tup [.int (n+(zs.length:Int) / w),.int ((zs.length:Int) % w)]) hu2)
  refine⟨S.A,w,rows,nn,_,_,u2,(n+zs.length / w:Nat),(zs.length % w:Nat),rfl,T,TP,J.st.bk.same s5,by rw[zac];simp,λ_ v H4 ev s6=> ?_,λy=>absurd ob1.2.1 y⟩
  rw[i2]at ev
  cases ev
  push_cast[]
  have s7:=s5.trans s6
  clear s4 s5 s6
  refine⟨by decide,λp1 hp1=>⟨by decide,λp2 hp2=> ?_⟩⟩
  have sx:=zae (o:=.tup []) hp1
  have sy:=zae (o:=.tup [V.int 1,V.ref p1]) hp2
  have s8:=(s7.trans sx).trans sy
  have f1:=sy _ _ (zac (H:=H4) (a:=p1) (o:=.tup []))
  refine zq1 (n:=3) (by decide) (Dat.tup (SqT.of (s8 _ _ pt2)) (.cons (.int 1) (.cons (Dat.tup (SqT.of (s8 _ _ pe2)) .nil) .nil))) (Dat.tup (SqT.of zac) (.cons (.int 1) (.cons (Dat.tup (SqT.of f1) .nil) .nil))) ?_
  push_cast[↓zlt]
  revert s8
  clear f1 sy
  generalize upd (upd H4 p1 (.tup [])) p2 (.tup [V.int 1,V.ref p1])=H5
  intro s8
  refine⟨_,_,s8 _ _ eb,zhr (by decide +kernel),_,_,s8 _ _ ely,zgh (by decide +kernel),S.lp,n,r,1,w,zs.length,rfl,TL,J.st.ly.same s8,λu3 hu3=> ?_⟩
  have s9:=s8.trans (zae (o:=.tup [.int (0+(zs.length:Int) / w),.int ((zs.length:Int) % w)]) hu3)
  refine⟨S.A,w,rows,nn,_,_,u3,(zs.length / w:Nat),(zs.length % w:Nat),rfl,T,TP,J.st.bk.same s9,by rw[zac];simp,λ_ v H6 ev s10=> ?_,λy=>absurd ob1.2.2 y⟩
  rw[i3]at ev
  cases ev
  have s11:=s9.trans s10
  clear s8 s9 s10
  push_cast[]
  refine⟨by decide,λp3 hp3=> ?_⟩
  have s12:=s11.trans (zae (o:=.tup [V.str z,V.int zs.length]) hp3)
  have dz:∀ {X:Hp},Dat K X 1 (.str z) (.str z):=⟨.str z,hz.2.1,Nat.zero_le _⟩
  refine zq1 (n:=2) (by decide) (Dat.tup (SqT.of (s12 _ _ pt3)) (.cons dz (.cons (.int _) .nil))) (Dat.tup (SqT.of zac) (.cons dz (.cons (.int _) .nil))) ?_
  push_cast[↓zkt]
  revert s12
  generalize upd H6 p3 (.tup [V.str z,V.int zs.length])=H7
  intro s12
  have x1:(cs++[c1]++[c2]++[c3])[3 * zs.length]? =some c1:=by rw[<-hln];simp
  have x2:(cs++[c1]++[c2]++[c3])[3 * zs.length+1]? =some c2:=by
   rw[<-hln,List.getElem?_append_left (by simp),List.getElem?_append_right (by simp)];simp
  have x3:(cs++[c1]++[c2]++[c3])[3 * zs.length+2]? =some c3:=by
   rw[<-hln,List.getElem?_append_right (by simp)];simp
  refine⟨_,_,s12 _ _ eb,zhr (by decide +kernel),cm,zng T (J.st.bk.same s12) x1 (by simp) λl1 H8 s13 el1=>⟨by decide,λp4 hp4=> ?_⟩⟩
  have s14:=zae (o:=.lst []) hp4
  rw[g1]at el1
  refine zvy (l:=[]) (s14 _ _ el1) zac ?_
  push_cast[]
  have s15:=(s12.trans s13).trans s14
  revert s15
  generalize upd H8 p4 (.lst [])=H9
  intro s15
  refine⟨_,_,s15 _ _ eb,zhr (by decide +kernel),cm,zng T (J.st.bk.same s15) x2 (by simp) λl2 H10 s16 el2=>⟨cm,by decide,λp5 hp5=> ?_⟩⟩
  have s17:=zae (o:=.lst [V.int (3 * zs.length)]) hp5
  rw[g2,hln]at el2
  refine zvy (l:=[3 * (zs.length:Int)]) (s17 _ _ (by rw[el2];simp)) zac ?_
  push_cast[↓zku]
  have s18:=(s15.trans s16).trans s17
  revert s18
  generalize upd H10 p5 (.lst [V.int (3 * zs.length)])=H11
  intro s18
  refine⟨_,_,s18 _ _ eb,zhr (by decide +kernel),cm,zng T (J.st.bk.same s18) x3 (by simp) λl3 H12 s19 el3=>⟨cm,by decide,λp6 hp6=> ?_⟩⟩
  have s20:=zae (o:=.lst [V.int (3 * zs.length+1)]) hp6
  rw[g3,hln]at el3
  have d3:=zjs (K:=K) (H:=upd H12 p6 (.lst [V.int (3 * zs.length+1)])) (n:=1) [3 * (zs.length:Int)+1]
  refine zabv (n:=2) (by decide) (Dat.lst (SqL.of (s20 _ _ (by rw[el3];simp))) d3) (Dat.lst (SqL.of zac) d3) ?_
  have s21:=(s18.trans s19).trans s20
  exact q _ _ (J.same s21) (sb.trans (Same.sb s21))
 ·rw[I.fresh hz]at ek;cases ek
 ·rw[I.low1,I.low0,if_pos h1,if_pos h2]at hr
  omega
theorem zrk(h:zdg K a vs H Q E):vs.length=4:=by
 obtain⟨_,_,_,_,_,_,_,_,_,rfl,_⟩:=h
 rfl
theorem zl7(h:zb9 K a vs H Q E):zex K a (λ_=>E) (ends Q) (zby ["store","name","refused","e"] vs) H:=by
 obtain⟨S,n,r,w,rows,nn,cs,zs,z,rfl,T4,X,I,hz,hf,q⟩:=h
 obtain⟨dx,ho⟩:=I.st.ob
 have hsm:=I.small
 have hln:=I.ln
 push_cast[zex,↓zi6,↓zi9,↓zi7]
 refine⟨_,_,ho,zpo (by decide +kernel),S,n,r,1,w,rows,nn,cs,_,[],_,z,rfl,T4,I.st,?_,by omega,λ_ _ rec cell er ec=> ?_,λhb=>absurd hb (by rw[hz.1];simp),λ_ ⟨k,ek⟩=> ?_,λ_ _ hr H' s=> ?_⟩
 ·have:=hz.1
  unfold zd2 at this
  simp only[Bool.and_eq_true,decide_eq_true_eq]at this
  omega
 ·rw[I.low1]at er
  rw[I.low0]at ec
  split at er
  ·split at ec
   ·omega
   ·omega
  ·omega
 ·rw[I.fresh hz]at ek;cases ek
 ·refine .inl ⟨X.hit,λe he=> ?_⟩
  have se:=zae (o:=.ext (znn e (.ref (a "NoRoom")))) he
  have ty:TyX K (upd H' e (.ext (znn e (.ref (a "NoRoom"))))) (.ref e) (.ref (a "NoRoom")):=.inr ⟨e,a "NoRoom",rfl,rfl,zac,X.ec⟩
  push_cast[↓zi8]
  refine zhn ty (.own _) X.ih ⟨true,rfl,iteT (zhn ty (.ty _) X.iv ?_)⟩
  push_cast[↓zja]
  exact q _ (s.trans se)
theorem znh(h:zb9 K a vs H Q E):vs.length=2:=by
 obtain⟨_,_,_,_,_,_,_,_,_,rfl,_⟩:=h
 rfl
theorem StAt.put{S:SA}{n r c w:Nat}{rows:List (List V)}{nn:Nat}{cs:List Ch}{outs:Int->Bool}{tks:List (Key × V)}{nm:Nat->Option (Str × Nat)}{l:Addr}{xs ys:List V}(I:StAt a H S n r c w rows nn cs outs tks nm)(e:H l=some (.lst xs))(f:¬ S.A.F l):StAt a (upd H l (.lst ys)) S n r c w rows nn cs outs tks nm:=by
 have s:SameBut (· =l) H (upd H l (.lst ys)):=λy o ey n=>by rw[zah n];exact ey
 have g:∀ x,x=l->zlj (H x):=λx hx=>by rw[hx];exact zmu e
 have tk:zfz H (upd H l (.lst ys)):=zkb s g
 obtain⟨⟨dx,e1⟩,e2,e3,e4,e5,e6,e7,e8,e9⟩:=I
 obtain⟨dl,el⟩:=e2.ob
 exact⟨⟨dx,s _ _ e1 (ze6 e1 e (by intro z;cases z))⟩,e2.sb s (ze6 el e (by intro z;cases z)),e3.sb s g λx hx=>by rw[hx];exact f,s _ _ e4 (ze6 e4 e (by intro z;cases z)),e5,e6,e7,e8.keep tk,λk v hk hv=>(e9 k v hk hv).keep tk⟩
theorem zov(zs:List Str):∀ m,zh6 (nm41 zs) m=zs.take m
  | 0=>by simp[zh6]
  | m+1=>by
    have ih:=zov zs m
    unfold zh6 at ih ⊢
    rw[List.range_succ,List.filterMap_append,ih,List.take_add_one]
    congr 1
    unfold nm41
    cases e:zs[m]? <;>simp[e]
theorem zps{n:Nat}:∀ {l:List Str},(∀ z∈l,PyData.strOk z=true)->Paired (Dat K H n) (l.map V.str) (l.map PyData.str)
 | [],_=>.nil
 | z::r,h=>.cons ⟨.str z,h z List.mem_cons_self,Nat.zero_le _⟩ (zps λy hy=>h y (List.mem_cons_of_mem _ hy))
theorem zxk (h:zou K a vs H Q E):zs7 K a (λ_=>E) (ends Q) (zby ["script","cell","layout","room","store","names","name"] vs) H:=by
  obtain⟨s,ns,rfl,T4,X,hs,hl,q⟩:=h
  obtain⟨T,TP,TL,TS⟩:=T4
  push_cast[zs7,↓zsd,↓zse,↓zsf,↓zsg,↓zsh,↓zkl]
  refine⟨ns,0,rfl,hs,by omega,?_⟩
  generalize zmv ns 0=x
  obtain⟨n,en,hn⟩:∃ n:Nat,1+x % 6=n/\1<=n/\n<=6:=⟨(1+x % 6).toNat,by omega,by omega⟩
  obtain⟨r,er,hr⟩:∃ n:Nat,1+x / 6 % 6=n/\1<=n/\n<=6:=⟨(1+x / 6 % 6).toNat,by omega,by omega⟩
  obtain⟨w,ew,hw⟩:∃ n:Nat,1+x / 36 % 6=n/\1<=n/\n<=6:=⟨(1+x / 36 % 6).toNat,by omega,by omega⟩
  rw[en,er,ew]
  refine⟨⟨by decide,by decide⟩,⟨by decide,by decide⟩,λlp dl hlp hdl ndl=> ?_⟩
  have s0:Same H (upd (upd H dl (.own lp)) lp (.ins (a "Layout") dl [])):=(zae hdl).trans (zae (by rw[zah ndl.symm];exact hlp))
  refine⟨lp,dl,n,r,1,w,rfl,TL,zac,by omega,by omega,by omega,hw.1,by omega,λH2 L2 sb2=>⟨rfl,⟨by decide,by decide⟩,⟨by decide,by decide⟩,?_⟩⟩
  have s2:Same H H2:=λy o e=>sb2 _ _ (s0 _ _ e) (zak e hlp)
  clear s0 sb2
  obtain⟨room,erm,hrm⟩:∃ m:Nat,(if(r:Int)<n then(r:Int)else n) * w=m/\(m=n * w\/m=r * w)/\m<=n * w/\m<=r * w:=by
    by_cases h:(r:Int)<n
    · rw[if_pos h]
      exact⟨r * w,by simp,.inr rfl,Nat.mul_le_mul_right _ (by omega),Nat.le_refl _⟩
    · rw[if_neg h]
      exact⟨n * w,by simp,.inl rfl,Nat.le_refl _,Nat.mul_le_mul_right _ (by omega)⟩
  refine⟨?_,?_⟩
  · split
    ·exact .inl ⟨by omega,by omega⟩
    ·exact .inl ⟨by omega,by omega⟩
  rw[erm]
  obtain⟨dl2,el⟩:=L2.ob
  refine⟨_,_,el,zgh (by decide +kernel),lp,n,r,1,w,rfl,TL,TP,L2,λgp cl H3 hgp hcl P3 s3 st dst hst hdst ndst=> ?_⟩
  have s4:Same H3 (upd (upd H3 dst (.own st)) st (.ins (a "Store") dst [])):=(zae hdst).trans (zae (by rw[zah ndst.symm];exact hst))
  have hN:∀ r'∈List.replicate (n+r+1+r+1) (List.replicate w V.non),∀ v∈r',v=.non:=λr' hr' v hv=>by
    rw[List.eq_of_mem_replicate hr']at hv
    exact List.eq_of_mem_replicate hv
  refine⟨st,dst,lp,gp,cl,n,r,1,w,_,0,λ_=>none,rfl,⟨T,TP,TL,TS⟩,zac,(L2.same s3).same s4,P3.same s4,⟨hn.2,hr.2,by omega,hw.2,by simp⟩,λr' hr' v hv=>by rw[hN r' hr' v hv];trivial,λk v hk hv=> ?_,λS H5 e1 e2 e3 e4 off htk I sb5=>⟨rfl,by decide,λnl hnl=> ?_⟩⟩
  · unfold zda at hv
    have:zbs [] (k / w:Nat) (k % w:Nat)=none:=rfl
    rw[this]at hv
    obtain⟨r',er',ev⟩:=Option.bind_eq_some_iff.mp hv
    exact hN r' (List.mem_of_getElem? er') v (List.mem_of_getElem? ev)
  subst e1 e2
  have s35:Same H3 H5:=λy o e=>sb5 _ _ (s4 _ _ e) (zak e hst)
  have s25:Same H2 H5:=s3.trans s35
  have fnl:¬ S.A.F nl:=I.bk.off hnl
  have offs:∀ y o,H2 y=some o->¬ S.A.F y:=λy o e=>(off y o (s4 _ _ (s3 _ _ e))).resolve_left (zak e hcl)
  have hsX:∀ X:Hp,(∀ y o,H2 y=some o->¬ S.A.F y->X y=some o)->SqL K X s (ns.map V.int):=λX hX=>SqL.on (s2.seq hs) λo e=>hX s o e (offs s o e)
  have s6:=zae (o:=.lst []) hnl
  have I6:=I.same s6
  have L6:L41 a (upd H5 nl (.lst [])) S n r w (List.replicate (n+r+1+r+1) (List.replicate w V.non)) 0 [] []:=by
    refine⟨?_,rfl,λk hk=> ?_,(λc hc=>by cases hc),Nat.zero_le _,Nat.zero_le _,(λk z hk=>by simp at hk),hn.1,hr.1⟩
    · rw[show nm41 []=λ_=>none from by funext k;simp[nm41]]
      exact I6
    · have d2:k / w<r:=Nat.div_lt_of_lt_mul (by rw[Nat.mul_comm];exact hk)
      have hm:k % w<w:=Nat.mod_lt _ (by omega)
      have hb:n+r+1+k / w<n+r+1+r+1:=by generalize k / w=y at *;omega
      rw[if_neg (by simp)]
      unfold zda
      rw[show zbs [] (n+r+1+k / w:Nat) (k % w:Nat)=none from rfl]
      show((List.replicate (n+r+1+r+1) (List.replicate w V.non))[((n+r+1+k / w:Nat):Int).toNat]?).bind (λr=>r[((k % w:Nat):Int).toNat]?)=_
      rw[Int.toNat_natCast,Int.toNat_natCast,List.getElem?_replicate,if_pos hb,Option.bind_some,List.getElem?_replicate,if_pos hm]
  have k6:∀ y o,H2 y=some o->¬ S.A.F y->upd H5 nl (.lst []) y=some o:=λy o e _=>s6 _ _ (s25 _ _ e)
  have n6:upd H5 nl (.lst []) nl=some (.lst (([]:List Str).map V.str)):=zac
  revert L6 k6 n6
  generalize upd H5 nl (.lst [])=H6
  generalize List.replicate (n+r+1+r+1) (List.replicate w V.non)=rows
  intro L6 k6 n6
  push_cast[↓zrb]
  refine .inl ⟨⟨_,hsX _ k6⟩,zqp (xs:=ns.map V.int) (λi σ H'=>(∃ cs zs,L41 a H' S n r w rows 0 cs zs/\H' nl=some (.lst (zs.map V.str))/\∀ y o,H2 y=some o->¬ S.A.F y->H' y=some o)/\∃ y1 y6,σ=[some (.ref s),y1,some (.ref S.lp),some (.int room),some (.ref S.st),some (.ref nl),y6]) ⟨⟨_,_,L6,n6,k6⟩,_,_,rfl⟩ (λi σ H' _ ⟨⟨_,_,_,_,k⟩,_⟩=>hsX _ k) (λi v σ H' hx ⟨⟨cs,zs,J,en',kp⟩,y1,y6,ez⟩=> ?_) (λσ H' ⟨⟨cs,zs,J,en',kp⟩,y1,y6,ez⟩=> ?_)⟩
  · subst ez
    obtain⟨cell,_,rfl⟩:=List.mem_map.mp (List.mem_of_getElem? hx)
    have hsm:=J.small
    push_cast[↓zsi,↓zq9]
    have tail:∀ {H7:Hp} {cs:List Ch} {zs:List Str} {y6:Option V},L41 a H7 S n r w rows 0 cs zs->H7 nl=some (.lst (zs.map V.str))->(∀ y o,H2 y=some o->¬ S.A.F y->H7 y=some o) →
        rd_law_14 K a (λ_=>E) (λ_=>E) { nx:=λσ H'=>(∃ cs zs,L41 a H' S n r w rows 0 cs zs/\H' nl=some (.lst (zs.map V.str))/\∀ y o,H2 y=some o->¬ S.A.F y->H' y=some o)/\∃ y1 y6,σ=[some (.ref s),y1,some (.ref S.lp),some (.int room),some (.ref S.st),some (.ref nl),y6],rt:=Q,bk:=rd_law_16 K a (λ_=>E) (λ_=>E) (ends Q),ct:=λσ H'=>(∃ cs zs,L41 a H' S n r w rows 0 cs zs/\H' nl=some (.lst (zs.map V.str))/\∀ y o,H2 y=some o->¬ S.A.F y->H' y=some o)/\∃ y1 y6,σ=[some (.ref s),y1,some (.ref S.lp),some (.int room),some (.ref S.st),some (.ref nl),y6] }
          [some (.ref s),some (.int cell),some (.ref S.lp),some (.int room),some (.ref S.st),some (.ref nl),y6] H7:=λ{H7 cs zs y6} J en' kp=>by
      obtain⟨dx,ho⟩:=J.st.ob
      have hsm:=J.small
      push_cast[↓zra]
      refine⟨_,_,ho,zpo (by decide +kernel),S,n,r,1,w,rows,0,cs,_,[],_,rfl,⟨T,TP,TL,TS⟩,J.st,λl ks H8 hl8 s8 el8 pk hk=> ?_⟩
      refine⟨nl,zs,rfl,SqL.of (s8 _ _ en'),by omega,λD ks' hD pk' hk'=> ?_⟩
      have hnm:zh6 (nm41 zs) (n * w)=zs:=by
        rw[zov,List.take_of_length_le J.hn]
      rw[hnm]at pk
      have:=zq5 hk hk' (pk.trans pk'.symm)
      subst this
      have sD:=zae (o:=.lst (ks.map V.str)) hD
      have ok:∀ z∈ks,PyData.strOk z=true:=λz hz=>by
        obtain⟨k,ek⟩:=zxu (pk.mem_iff.mp hz)
        exact(J.nz k z ek).2.1
      refine zq1 (n:=2) (by decide) (Dat.lst (SqL.of (sD _ _ el8)) (zps ok)) (Dat.lst (SqL.of zac) (zps ok)) ?_
      push_cast[]
      have s9:=s8.trans sD
      exact⟨cs,zs,J.same s9,s9 _ _ en',λy o e f=>s9 _ _ (kp y o e f)⟩
    refine⟨zs.length,.inl ⟨_,SqL.of en',by simp⟩,zs.length,cell,rfl,λz H7 hz s7=> ?_⟩
    have kp7:∀ y o,H2 y=some o->¬ S.A.F y->H7 y=some o:=λy o e f=>s7 _ _ (kp y o e f)
    have J7:=J.same s7
    have en7:=s7 _ _ en'
    push_cast[]
    refine⟨zs.length,.inl ⟨_,SqL.of en7,by simp⟩,?_⟩
    split
    · rename_i hlt
      push_cast[↓zsj]
      refine⟨zs.length,.inl ⟨_,SqL.of en7,by simp⟩,S,n,r,w,rows,0,cs,zs,z,rfl,⟨T,TP,TL,TS⟩,J7,hz,by omega,by omega,λcs' H8 J8 sb8=> ?_⟩
      push_cast[↓zsk]
      have en8:=sb8 _ _ en7 fnl
      refine⟨.inl ⟨rfl,_,SqL.of en8⟩,nl,_,_,rfl,rfl,en8,Nat.lt_of_lt_of_le (show(zs.map V.str).length<1000 by rw[List.length_map];omega) (by decide),?_⟩
      have J9:L41 a (upd H8 nl (.lst ((zs++[z]).map V.str))) S n r w rows 0 cs' (zs++[z]):=⟨J8.st.put en8 fnl,J8.ln,J8.mks,J8.fr,J8.hn,J8.hr,J8.nz,J8.p1⟩
      rw[List.map_append]at J9
      refine tail J9 (by rw[zac];simp) λy o e f=> ?_
      rw[zah (zak (s25 _ _ e) hnl)]
      exact sb8 _ _ (kp7 y o e f) f
    · rename_i hlt
      push_cast[↓zq8]
      have:=J.hn
      have:=J.hr
      refine⟨S,n,r,w,rows,0,cs,zs,z,rfl,⟨T,TP,TL,TS⟩,X,J7,hz,by omega,λH8 s8=> ?_⟩
      push_cast[]
      exact tail (J7.same s8) (s8 _ _ en7) λy o e f=>s8 _ _ (kp7 y o e f)
  · subst ez
    push_cast[↓zrc]
    exact q _
theorem zz4(h:zou K a vs H Q E):vs.length=1:=by
 obtain⟨_,_,rfl,_⟩:=h
 rfl
end
end L2
set_option linter.all false
set_option maxRecDepth 100000
set_option maxHeartbeats 4000000
namespace L2
open PySem PySem.Spec PyProof.Rows
def top(i:Nat):Stmt:=PySem.Challenge.pw_holdback_k41_names_made.main.body.getD i (.Pass ⟨0,0,0,0⟩)
structure Txt(K:PySem.W.Frag)(mg:Str->Option Value)(a:Ad):Prop where
 c_Change:Cls K (a "Change")
 c_Hold:Cls K (a "Hold")
 c_Layout:Cls K (a "Layout")
 c_Plank:Cls K (a "Plank")
 c_Store:Cls K (a "Store")
 r_HoldError:mg "HoldError"=some (.ref (a "HoldError"))
 g_HoldError:GV mg "HoldError" (.ref (a "HoldError"))
 x_HoldError:Exc K (a "HoldError")
 g_MOST_LETTERS:GV mg "MOST_LETTERS" (.int 8)
 r_NoBlock:mg "NoBlock"=some (.ref (a "NoBlock"))
 g_NoBlock:GV mg "NoBlock" (.ref (a "NoBlock"))
 x_NoBlock:Exc K (a "NoBlock")
 r_NoChange:mg "NoChange"=some (.ref (a "NoChange"))
 g_NoChange:GV mg "NoChange" (.ref (a "NoChange"))
 x_NoChange:Exc K (a "NoChange")
 r_NoName:mg "NoName"=some (.ref (a "NoName"))
 g_NoName:GV mg "NoName" (.ref (a "NoName"))
 x_NoName:Exc K (a "NoName")
 r_NoRoom:mg "NoRoom"=some (.ref (a "NoRoom"))
 g_NoRoom:GV mg "NoRoom" (.ref (a "NoRoom"))
 x_NoRoom:Exc K (a "NoRoom")
 r_Twice:mg "Twice"=some (.ref (a "Twice"))
 g_Twice:GV mg "Twice" (.ref (a "Twice"))
 x_Twice:Exc K (a "Twice")
 b_ValueError:mg "ValueError"=none
 b_all:mg "all"=none
 b_bool:mg "bool"=none
 b_enumerate:mg "enumerate"=none
 b_isinstance:mg "isinstance"=none
 b_len:mg "len"=none
 b_list:mg "list"=none
 b_min:mg "min"=none
 b_range:mg "range"=none
 b_set:mg "set"=none
 b_sorted:mg "sorted"=none
 b_tuple:mg "tuple"=none
def RdOk(sp:Sp)(rd:(St->XK)->TS)(N:List Str):Prop:=∀ (vs:List V) (H:Hp) (Q:VK) (E:XK),sp vs H Q E->rd (λ_=>E) { nx:=λ_ H'=>Q .non H',rt:=Q } (zby N vs) H
def zcu(sp:Sp)(k:Nat):Prop:=∀ (vs:List V) (H:Hp) (Q:VK) (E:XK),sp vs H Q E->vs.length=k
section
variable{P:Program}{w:World}{K:PySem.W.Frag}{mg:Str->Option Value}{base:Heap}{a:Ad}{f:Addr}{fd:FuncData}
abbrev zc0:Stmt:=zbh (top 9) 0
theorem zn1:zav ["self","place","value","needs"] ["self","place","value","needs"] (zaa zc0):=⟨rfl,rfl,rfl,by decide +kernel,rfl,by decide +kernel,by decide +kernel⟩
theorem zn2(T:Txt K mg a)(F:Fun K "__init__" "Change.__init__" zc0 f fd)
  (R:RdOk (zb6 K a) (zen K a) ["self","place","value","needs"]) (L:zcu (zb6 K a) 4) :
  FnOk P w K mg base (cxE P w) 1 f fd ["self","place","value","needs"] (zb6 K a):=by
 refine F.okE zn1 L (λcdv A outer s H vs Q E hr h=> ?_)
 have hx:XOk (cxOf (cxE P w) P w K mg base ["self","place","value","needs"] "Change.__init__" (zaa zc0) f cdv A outer s H E) (λ_=>E):=zbj
 exact⟨zen K a (λ_=>E),(zai (zef (pvr 0) (pvr 1) rfl)
   (zai (zef (pvr 0) (pvr 2) rfl)
   (zaj (zef (pvr 0) (pvr 3) rfl)))),R vs H Q E h⟩
abbrev za3:Stmt:=zbh (top 10) 10
theorem sc_Book_ask_for_changes:zav ["self","numbers","number"] ["self","numbers"] (zaa za3):=⟨rfl,rfl,rfl,by decide +kernel,rfl,by decide +kernel,by decide +kernel⟩
theorem zgr(T:Txt K mg a)(F:Fun K "ask_for_changes" "Book.ask_for_changes" za3 f fd)
  (R:RdOk (zan K a) (zb2 K a) ["self","numbers","number"]) (L:zcu (zan K a) 2) :
  FnOk P w K mg base (cxE P w) 1 f fd ["self","numbers"] (zan K a):=by
 refine F.okE sc_Book_ask_for_changes L (λcdv A outer s H vs Q E hr h=> ?_)
 have hx:XOk (cxOf (cxE P w) P w K mg base ["self","numbers","number"] "Book.ask_for_changes" (zaa za3) f cdv A outer s H E) (λ_=>E):=zbj
 exact⟨zb2 K a (λ_=>E),(zaj (zp7 hx.po rfl (zs0 (pvr 1)) (zd0 (i:=2) sc_Book_ask_for_changes.nd rfl (Or.inl rfl)) (zaj (zga (zk4 (zmf zk8 zoo zaq (pvr 2) (zb1 zd6 rfl T.b_len (by rfl) (zab (za4 (pvr 0) rfl) zad)))) (zaj (zhl hx T.x_NoChange rfl T.r_NoChange (zab zh3 zad))) zc9)))),R vs H Q E h⟩
abbrev zdh:Stmt:=top 11
theorem zpt:zav ["needs","ahead"] ["needs","ahead"] (zaa zdh):=⟨rfl,rfl,rfl,by decide +kernel,rfl,by decide +kernel,by decide +kernel⟩
theorem zpu(T:Txt K mg a)(F:Fun K "needs_with" "needs_with" zdh f fd)
  (R:RdOk (zci K a) (zd9 K a) ["needs","ahead"]) (L:zcu (zci K a) 2) :
  FnOk P w K mg base (cxE P w) 1 f fd ["needs","ahead"] (zci K a):=by
 refine F.okE zpt L (λcdv A outer s H vs Q E hr h=> ?_)
 have hx:XOk (cxOf (cxE P w) P w K mg base ["needs","ahead"] "needs_with" (zaa zdh) f cdv A outer s H E) (λ_=>E):=zbj
 exact⟨zd9 K a (λ_=>E),(zai (zga (zdr zxp (pvr 1) zjh (ze5 _)) (zaj (zbf (zf4 zmq rfl T.b_tuple (by rfl) (zab (zor rfl rfl T.b_sorted rfl T.b_set (pvr 0)) zad)))) zc9)
   (zaj (zbf (zf4 zmq rfl T.b_tuple (by rfl) (zab (zor rfl rfl T.b_sorted rfl T.b_set (zbx zct (zf4 zkh rfl T.b_list (by rfl) (zab (pvr 0) zad)) (zfg (zab (pvr 1) zad)))) zad))))),R vs H Q E h⟩
abbrev ze3:Stmt:=top 16
theorem zt3:zav ["thing"] ["thing"] (zaa ze3):=⟨rfl,rfl,rfl,by decide +kernel,rfl,by decide +kernel,by decide +kernel⟩
theorem zt4(T:Txt K mg a)(F:Fun K "is_name" "is_name" ze3 f fd)
  (R:RdOk (zd3 K a) (zhq K a) ["thing"]) (L:zcu (zd3 K a) 1) :
  FnOk P w K mg base (cxE P w) 1 f fd ["thing"] (zd3 K a):=by
 refine F.okE zt3 L (λcdv A outer s H vs Q E hr h=> ?_)
 have hx:XOk (cxOf (cxE P w) P w K mg base ["thing"] "is_name" (zaa ze3) f cdv A outer s H E) (λ_=>E):=zbj
 exact⟨zhq K a (λ_=>E),(zaj (zbf (zxm (zsq zk8 zk8 zaq (zb1 zd6 rfl T.b_len (by rfl) (zab (pvr 0) zad)) (zaau T.g_MOST_LETTERS rfl)) (zxl (zb1 (zqs rfl) rfl T.b_all (by rfl) (zab (zkg (tn:=["sign"]) (cn:=[]) (cap:=[]) (zk9 (outer:=zaa ze3) (N:=["thing"]) rfl rfl (by decide +kernel)) rfl (zabq (pvr 0)) (λ_ _ _ _ _ _=>(zd0 (i:=0) (show(["sign"]:List Str).Nodup from by decide +kernel) rfl (Or.inl rfl))) (λ_ _ _ _ _ _=>zh9) (λ_ _ _ _ _ _=>(zsq zk8 zk8 zh3 (pvr 0) zh3))) zad)))))),R vs H Q E h⟩
abbrev zdi:Stmt:=zbh (top 21) 12
theorem zpv:zav ["self"] ["self"] (zaa zdi):=⟨rfl,rfl,rfl,by decide +kernel,rfl,by decide +kernel,by decide +kernel⟩
theorem zpw(T:Txt K mg a)(F:Fun K "hold" "Store.hold" zdi f fd)
  (R:RdOk (zck K a) (ze9 K a) ["self"]) (L:zcu (zck K a) 1) :
  FnOk P w K mg base (cxE P w) 1 f fd ["self"] (zck K a):=by
 refine F.okE zpv L (λcdv A outer s H vs Q E hr h=> ?_)
 have hx:XOk (cxOf (cxE P w) P w K mg base ["self"] "Store.hold" (zaa zdi) f cdv A outer s H E) (λ_=>E):=zbj
 exact⟨ze9 K a (λ_=>E),(zaj (zbf (za4 (pvr 0) rfl))),R vs H Q E h⟩
abbrev zcw:Stmt:=zbh (top 23) 0
theorem zpx:zav ["self","blocks","cells"] ["self","blocks","cells"] (zaa zcw):=⟨rfl,rfl,rfl,by decide +kernel,rfl,by decide +kernel,by decide +kernel⟩
theorem zpy(T:Txt K mg a)(F:Fun K "__init__" "Plank.__init__" zcw f fd)
  (R:RdOk (zcf K a) (zfa K a) ["self","blocks","cells"]) (L:zcu (zcf K a) 3) :
  FnOk P w K mg base (cxE P w) 1 f fd ["self","blocks","cells"] (zcf K a):=by
 refine F.okE zpx L (λcdv A outer s H vs Q E hr h=> ?_)
 have hx:XOk (cxOf (cxE P w) P w K mg base ["self","blocks","cells"] "Plank.__init__" (zaa zcw) f cdv A outer s H E) (λ_=>E):=zbj
 exact⟨zfa K a (λ_=>E),(zai (zef (pvr 0) (zkg (tn:=["block"]) (cn:=["cells"]) (cap:=[2]) (zk9 (outer:=zaa zcw) (N:=["self","blocks","cells"]) rfl rfl (by decide +kernel)) rfl (zf3 rfl T.b_range (zab (pvr 1) zad)) (λ_ _ _ _ _ _=>(zd0 (i:=0) (show(["block","cells"]:List Str).Nodup from by decide +kernel) rfl (Or.inl rfl))) (λ_ _ _ _ _ _=>zh9) (λ_ _ _ _ _ _=>(zbx zeg (zg1 (zab zjh zad)) (pvr 1)))) rfl)
   (zai (zef (pvr 0) (pvr 2) rfl)
   (zaj (zef (pvr 0) zaq rfl)))),R vs H Q E h⟩
abbrev zcp:Stmt:=zbh (top 23) 1
theorem zni:zav ["self"] ["self"] (zaa zcp):=⟨rfl,rfl,rfl,by decide +kernel,rfl,by decide +kernel,by decide +kernel⟩
theorem znj(T:Txt K mg a)(F:Fun K "blocks" "Plank.blocks" zcp f fd)
  (R:RdOk (zbc K a) (zea K a) ["self"]) (L:zcu (zbc K a) 1) :
  FnOk P w K mg base (cxE P w) 1 f fd ["self"] (zbc K a):=by
 refine F.okE zni L (λcdv A outer s H vs Q E hr h=> ?_)
 have hx:XOk (cxOf (cxE P w) P w K mg base ["self"] "Plank.blocks" (zaa zcp) f cdv A outer s H E) (λ_=>E):=zbj
 exact⟨zea K a (λ_=>E),(zaj (zbf (zb1 zd6 rfl T.b_len (by rfl) (zab (za4 (pvr 0) rfl) zad)))),R vs H Q E h⟩
abbrev zc1:Stmt:=zbh (top 23) 2
theorem zn3:zav ["self"] ["self"] (zaa zc1):=⟨rfl,rfl,rfl,by decide +kernel,rfl,by decide +kernel,by decide +kernel⟩
theorem zn4(T:Txt K mg a)(F:Fun K "cells" "Plank.cells" zc1 f fd)
  (R:RdOk (zb4 K a) (zeo K a) ["self"]) (L:zcu (zb4 K a) 1) :
  FnOk P w K mg base (cxE P w) 1 f fd ["self"] (zb4 K a):=by
 refine F.okE zn3 L (λcdv A outer s H vs Q E hr h=> ?_)
 have hx:XOk (cxOf (cxE P w) P w K mg base ["self"] "Plank.cells" (zaa zc1) f cdv A outer s H E) (λ_=>E):=zbj
 exact⟨zeo K a (λ_=>E),(zaj (zbf (za4 (pvr 0) rfl))),R vs H Q E h⟩
abbrev za5:Stmt:=zbh (top 23) 6
theorem zgy:zav ["self","block"] ["self","block"] (zaa za5):=⟨rfl,rfl,rfl,by decide +kernel,rfl,by decide +kernel,by decide +kernel⟩
theorem zgz(T:Txt K mg a)(F:Fun K "ask_for_block" "Plank.ask_for_block" za5 f fd)
  (R:RdOk (zat K a) (zcd K a) ["self","block"]) (L:zcu (zat K a) 2) :
  FnOk P w K mg base (cxE P w) 1 f fd ["self","block"] (zat K a):=by
 refine F.okE zgy L (λcdv A outer s H vs Q E hr h=> ?_)
 have hx:XOk (cxOf (cxE P w) P w K mg base ["self","block"] "Plank.ask_for_block" (zaa za5) f cdv A outer s H E) (λ_=>E):=zbj
 exact⟨zcd K a (λ_=>E),(zaj (zga (zk4 (zmf zk8 zoo zaq (pvr 1) (zb1 zd6 rfl T.b_len (by rfl) (zab (za4 (pvr 0) rfl) zad)))) (zaj (zhl hx T.x_NoBlock rfl T.r_NoBlock (zab zh3 zad))) zc9)),R vs H Q E h⟩
abbrev zc2:Stmt:=zbh (top 25) 0
theorem zn5:zav ["self","names","records","pieces","cells"] ["self","names","records","pieces","cells"] (zaa zc2):=⟨rfl,rfl,rfl,by decide +kernel,rfl,by decide +kernel,by decide +kernel⟩
theorem zn6(T:Txt K mg a)(F:Fun K "__init__" "Layout.__init__" zc2 f fd)
  (R:RdOk (zb5 K a) (zep K a) ["self","names","records","pieces","cells"]) (L:zcu (zb5 K a) 5) :
  FnOk P w K mg base (cxE P w) 1 f fd ["self","names","records","pieces","cells"] (zb5 K a):=by
 refine F.okE zn5 L (λcdv A outer s H vs Q E hr h=> ?_)
 have hx:XOk (cxOf (cxE P w) P w K mg base ["self","names","records","pieces","cells"] "Layout.__init__" (zaa zc2) f cdv A outer s H E) (λ_=>E):=zbj
 exact⟨zep K a (λ_=>E),(zai (zef (pvr 0) (pvr 1) rfl)
   (zai (zef (pvr 0) (pvr 2) rfl)
   (zai (zef (pvr 0) (pvr 3) rfl)
   (zaj (zef (pvr 0) (pvr 4) rfl))))),R vs H Q E h⟩
abbrev zca:Stmt:=zbh (top 25) 6
theorem zl8:zav ["self"] ["self"] (zaa zca):=⟨rfl,rfl,rfl,by decide +kernel,rfl,by decide +kernel,by decide +kernel⟩
theorem zl9(T:Txt K mg a)(F:Fun K "counts" "Layout.counts" zca f fd)
  (R:RdOk (za1 K a) (zdx K a) ["self"]) (L:zcu (za1 K a) 1) :
  FnOk P w K mg base (cxE P w) 1 f fd ["self"] (za1 K a):=by
 refine F.okE zl8 L (λcdv A outer s H vs Q E hr h=> ?_)
 have hx:XOk (cxOf (cxE P w) P w K mg base ["self"] "Layout.counts" (zaa zca) f cdv A outer s H E) (λ_=>E):=zbj
 exact⟨zdx K a (λ_=>E),(zaj (zbf (zg1 (zab (zbx zeg (za4 (pvr 0) rfl) (za4 (pvr 0) rfl)) (zab (zbx zeg (za4 (pvr 0) rfl) (za4 (pvr 0) rfl)) (zab (zbx zeg (za4 (pvr 0) rfl) (za4 (pvr 0) rfl)) zad)))))),R vs H Q E h⟩
abbrev zao:Stmt:=zbh (top 25) 9
theorem zeh:zav ["self"] ["self"] (zaa zao):=⟨rfl,rfl,rfl,by decide +kernel,rfl,by decide +kernel,by decide +kernel⟩
theorem zei(T:Txt K mg a)(F:Fun K "blocks_ahead_of_marks" "Layout.blocks_ahead_of_marks" zao f fd)
  (R:RdOk (zag K a) (za7 K a) ["self"]) (L:zcu (zag K a) 1) :
  FnOk P w K mg base (cxE P w) 1 f fd ["self"] (zag K a):=by
 refine F.okE zeh L (λcdv A outer s H vs Q E hr h=> ?_)
 have hx:XOk (cxOf (cxE P w) P w K mg base ["self"] "Layout.blocks_ahead_of_marks" (zaa zao) f cdv A outer s H E) (λ_=>E):=zbj
 exact⟨za7 K a (λ_=>E),(zaj (zbf (zbx zct (zbx zct (za4 (pvr 0) rfl) (za4 (pvr 0) rfl)) (za4 (pvr 0) rfl)))),R vs H Q E h⟩
abbrev zbg:Stmt:=zbh (top 25) 10
theorem zh1:zav ["self","block","k"] ["self","block","k"] (zaa zbg):=⟨rfl,rfl,rfl,by decide +kernel,rfl,by decide +kernel,by decide +kernel⟩
theorem zh2(T:Txt K mg a)(F:Fun K "place_from" "Layout.place_from" zbg f fd)
  (R:RdOk (zam K a) (zcs K a) ["self","block","k"]) (L:zcu (zam K a) 3) :
  FnOk P w K mg base (cxE P w) 1 f fd ["self","block","k"] (zam K a):=by
 refine F.okE zh1 L (λcdv A outer s H vs Q E hr h=> ?_)
 have hx:XOk (cxOf (cxE P w) P w K mg base ["self","block","k"] "Layout.place_from" (zaa zbg) f cdv A outer s H E) (λ_=>E):=zbj
 exact⟨zcs K a (λ_=>E),(zaj (zbf (zg1 (zab (zbx zct (pvr 1) (zbx zh7 (pvr 2) (za4 (pvr 0) rfl))) (zab (zbx zg0 (pvr 2) (za4 (pvr 0) rfl)) zad))))),R vs H Q E h⟩
abbrev zc3:Stmt:=top 27
theorem zn7:zav ["script","k"] ["script","k"] (zaa zc3):=⟨rfl,rfl,rfl,by decide +kernel,rfl,by decide +kernel,by decide +kernel⟩
theorem zn8(T:Txt K mg a)(F:Fun K "_law_cell_at" "_law_cell_at" zc3 f fd)
  (R:RdOk (zbk K a) (zeq K a) ["script","k"]) (L:zcu (zbk K a) 2) :
  FnOk P w K mg base (cxE P w) 1 f fd ["script","k"] (zbk K a):=by
 refine F.okE zn7 L (λcdv A outer s H vs Q E hr h=> ?_)
 have hx:XOk (cxOf (cxE P w) P w K mg base ["script","k"] "_law_cell_at" (zaa zc3) f cdv A outer s H E) (λ_=>E):=zbj
 exact⟨zeq K a (λ_=>E),(zai (zga (zdr zoo (pvr 1) (zb1 zd6 rfl T.b_len (by rfl) (zab (pvr 0) zad)) (ze5 _)) (zaj (zbf (zfu zdu (pvr 0) (pvr 1) (λ_ _=>rfl)))) zc9)
   (zaj (zbf zaq))),R vs H Q E h⟩
abbrev zej:Stmt:=top 28
theorem sc_law_name:zav ["k","cell","letters","ahead","j"] ["k","cell"] (zaa zej):=⟨rfl,rfl,rfl,by decide +kernel,rfl,by decide +kernel,by decide +kernel⟩
theorem zsn(T:Txt K mg a)(F:Fun K "_law_name" "_law_name" zej f fd)
  (R:RdOk (zdf K a) (zgi K a) ["k","cell","letters","ahead","j"]) (L:zcu (zdf K a) 2) :
  FnOk P w K mg base (cxE P w) 1 f fd ["k","cell"] (zdf K a):=by
 refine F.okE sc_law_name L (λcdv A outer s H vs Q E hr h=> ?_)
 have hx:XOk (cxOf (cxE P w) P w K mg base ["k","cell","letters","ahead","j"] "_law_name" (zaa zej) f cdv A outer s H E) (λ_=>E):=zbj
 exact⟨zgi K a (λ_=>E),(zai (zdt (i:=2) sc_law_name.nd rfl (Or.inl rfl) zh3)
   (zai (zdt (i:=3) sc_law_name.nd rfl (Or.inl rfl) zh3)
   (zai (zp7 hx.po rfl (zf3 rfl T.b_range (zab (zbx zg0 (pvr 1) zaq) zad)) (zd0 (i:=4) sc_law_name.nd rfl (Or.inl rfl)) (zaj (zdt (i:=3) sc_law_name.nd rfl (Or.inl rfl) (zbx zct (pvr 3) (zfu zdu (pvr 2) (zbx zg0 (zbx zh7 (pvr 1) (zfu zdu (zfg (zab zaq (zab zaq (zab zaq (zab zaq (zab zaq zad)))))) (pvr 4) (λ_ _=>rfl))) zaq) (λ_ _=>rfl))))))
   (zaj (zbf (zbx zct (zbx zct (pvr 3) (zfu zdu (pvr 2) (zbx zg0 (zbx zh7 (pvr 0) zaq) zaq) (λ_ _=>rfl))) (zfu zdu (pvr 2) (zbx zg0 (pvr 0) zaq) (λ_ _=>rfl)))))))),R vs H Q E h⟩
abbrev zdj:Stmt:=zbh (top 10) 0
theorem zrl:zav ["self","plank"] ["self","plank"] (zaa zdj):=⟨rfl,rfl,rfl,by decide +kernel,rfl,by decide +kernel,by decide +kernel⟩
theorem zrm(T:Txt K mg a)(F:Fun K "__init__" "Book.__init__" zdj f fd)(m_Plank_blocks:MCal P w K mg base (a "Plank") 1 "blocks" ["self"] (zbc K a))
  (R:RdOk (zch K a) (zfr K a) ["self","plank"]) (L:zcu (zch K a) 2) :
  FnOk P w K mg base (cxE P w) 2 f fd ["self","plank"] (zch K a):=by
 refine F.okE zrl L (λcdv A outer s H vs Q E hr h=> ?_)
 have hx:XOk (cxOf (cxE P w) P w K mg base ["self","plank"] "Book.__init__" (zaa zdj) f cdv A outer s H E) (λ_=>E):=zbj
 exact⟨zfr K a (λ_=>E),(zai (zef (pvr 0) (pvr 1) rfl)
   (zai (zef (pvr 0) (zfg zad) rfl)
   (zai (zef (pvr 0) (zkg (tn:=["block"]) (cn:=[]) (cap:=[]) (zk9 (outer:=zaa zdj) (N:=["self","plank"]) rfl rfl (by decide +kernel)) rfl (zf3 rfl T.b_range (zab (zce (pvr 1) T.c_Plank m_Plank_blocks (hr.mono (by decide)) hx.passes) zad)) (λ_ _ _ _ _ _=>(zd0 (i:=0) (show(["block"]:List Str).Nodup from by decide +kernel) rfl (Or.inl rfl))) (λ_ _ _ _ _ _=>zh9) (λ_ _ _ _ _ _=>(zfg zad))) rfl)
   (zai (zef (pvr 0) zwf rfl)
   (zaj (zef (pvr 0) zsv rfl)))))),R vs H Q E h⟩
abbrev zc4:Stmt:=zbh (top 10) 5
theorem zn9:zav ["self","number"] ["self","number"] (zaa zc4):=⟨rfl,rfl,rfl,by decide +kernel,rfl,by decide +kernel,by decide +kernel⟩
theorem zoa(T:Txt K mg a)(F:Fun K "needed" "Book.needed" zc4 f fd)(m_Hold_ask_for_changes:MCal P w K mg base (a "Hold") 1 "ask_for_changes" ["self","numbers"] (zan K a))
  (R:RdOk (zbd K a) (zer K a) ["self","number"]) (L:zcu (zbd K a) 2) :
  FnOk P w K mg base (cxE P w) 2 f fd ["self","number"] (zbd K a):=by
 refine F.okE zn9 L (λcdv A outer s H vs Q E hr h=> ?_)
 have hx:XOk (cxOf (cxE P w) P w K mg base ["self","number"] "Book.needed" (zaa zc4) f cdv A outer s H E) (λ_=>E):=zbj
 exact⟨zer K a (λ_=>E),(zai (zft (zax (pvr 0) T.c_Hold m_Hold_ask_for_changes (hr.mono (by decide)) hx.passes (zab (zfg (zab (pvr 1) zad)) zad)))
   (zaj (zbf (zf4 zkh rfl T.b_list (by rfl) (zab (za4 (zfu zdu (za4 (pvr 0) rfl) (pvr 1) (λ_ _=>rfl)) rfl) zad))))),R vs H Q E h⟩
abbrev za8:Stmt:=zbh (top 10) 9
theorem zhf:zav ["self","place"] ["self","place"] (zaa za8):=⟨rfl,rfl,rfl,by decide +kernel,rfl,by decide +kernel,by decide +kernel⟩
theorem zhg(T:Txt K mg a)(F:Fun K "ask_for_place" "Book.ask_for_place" za8 f fd)(m_Plank_cells:MCal P w K mg base (a "Plank") 1 "cells" ["self"] (zb4 K a))(m_Plank_blocks:MCal P w K mg base (a "Plank") 1 "blocks" ["self"] (zbc K a))
  (R:RdOk (za2 K a) (zcl K a) ["self","place"]) (L:zcu (za2 K a) 2) :
  FnOk P w K mg base (cxE P w) 2 f fd ["self","place"] (za2 K a):=by
 refine F.okE zhf L (λcdv A outer s H vs Q E hr h=> ?_)
 have hx:XOk (cxOf (cxE P w) P w K mg base ["self","place"] "Book.ask_for_place" (zaa za8) f cdv A outer s H E) (λ_=>E):=zbj
 exact⟨zcl K a (λ_=>E),(zaj (zga (PW.pt (zt8 (zk4 (zmf zk8 zoo zaq (zfu zdu (pvr 1) zaq (λ_ _=>rfl)) (zce (za4 (pvr 0) rfl) T.c_Plank m_Plank_blocks (hr.mono (by decide)) hx.passes))) (zsp (zk4 (zmf zk8 zoo zaq (zfu zdu (pvr 1) zaq (λ_ _=>rfl)) (zce (za4 (pvr 0) rfl) T.c_Plank m_Plank_cells (hr.mono (by decide)) hx.passes)))))) (zaj (zhl hx T.x_NoBlock rfl T.r_NoBlock (zab zh3 zad))) zc9)),R vs H Q E h⟩
abbrev zdk:Stmt:=zbh (top 23) 4
theorem zpz:zav ["self","block"] ["self","block"] (zaa zdk):=⟨rfl,rfl,rfl,by decide +kernel,rfl,by decide +kernel,by decide +kernel⟩
theorem zp0(T:Txt K mg a)(F:Fun K "read" "Plank.read" zdk f fd)(m_Plank_ask_for_block:MCal P w K mg base (a "Plank") 1 "ask_for_block" ["self","block"] (zat K a))
  (R:RdOk (zcg K a) (zfb K a) ["self","block"]) (L:zcu (zcg K a) 2) :
  FnOk P w K mg base (cxE P w) 2 f fd ["self","block"] (zcg K a):=by
 refine F.okE zpz L (λcdv A outer s H vs Q E hr h=> ?_)
 have hx:XOk (cxOf (cxE P w) P w K mg base ["self","block"] "Plank.read" (zaa zdk) f cdv A outer s H E) (λ_=>E):=zbj
 exact⟨zfb K a (λ_=>E),(zai (zft (zax (pvr 0) T.c_Plank m_Plank_ask_for_block (hr.mono (by decide)) hx.passes (zab (pvr 1) zad)))
   (zaj (zbf (zf4 zkh rfl T.b_list (by rfl) (zab (zfu zdu (za4 (pvr 0) rfl) (pvr 1) (λ_ _=>rfl)) zad))))),R vs H Q E h⟩
abbrev zb0:Stmt:=zbh (top 25) 1
theorem zk2:zav ["self","k"] ["self","k"] (zaa zb0):=⟨rfl,rfl,rfl,by decide +kernel,rfl,by decide +kernel,by decide +kernel⟩
theorem zk3(T:Txt K mg a)(F:Fun K "name_at" "Layout.name_at" zb0 f fd)(m_Layout_place_from:MCal P w K mg base (a "Layout") 1 "place_from" ["self","block","k"] (zam K a))
  (R:RdOk (zap K a) (zdp K a) ["self","k"]) (L:zcu (zap K a) 2) :
  FnOk P w K mg base (cxE P w) 2 f fd ["self","k"] (zap K a):=by
 refine F.okE zk2 L (λcdv A outer s H vs Q E hr h=> ?_)
 have hx:XOk (cxOf (cxE P w) P w K mg base ["self","k"] "Layout.name_at" (zaa zb0) f cdv A outer s H E) (λ_=>E):=zbj
 exact⟨zdp K a (λ_=>E),(zaj (zbf (zax (pvr 0) T.c_Layout m_Layout_place_from (hr.mono (by decide)) hx.passes (zab zaq (zab (pvr 1) zad))))),R vs H Q E h⟩
abbrev zbm:Stmt:=zbh (top 25) 2
theorem zjd:zav ["self","k"] ["self","k"] (zaa zbm):=⟨rfl,rfl,rfl,by decide +kernel,rfl,by decide +kernel,by decide +kernel⟩
theorem zje(T:Txt K mg a)(F:Fun K "record_at" "Layout.record_at" zbm f fd)(m_Layout_place_from:MCal P w K mg base (a "Layout") 1 "place_from" ["self","block","k"] (zam K a))
  (R:RdOk (zaz K a) (zcy K a) ["self","k"]) (L:zcu (zaz K a) 2) :
  FnOk P w K mg base (cxE P w) 2 f fd ["self","k"] (zaz K a):=by
 refine F.okE zjd L (λcdv A outer s H vs Q E hr h=> ?_)
 have hx:XOk (cxOf (cxE P w) P w K mg base ["self","k"] "Layout.record_at" (zaa zbm) f cdv A outer s H E) (λ_=>E):=zbj
 exact⟨zcy K a (λ_=>E),(zaj (zbf (zax (pvr 0) T.c_Layout m_Layout_place_from (hr.mono (by decide)) hx.passes (zab (za4 (pvr 0) rfl) (zab (pvr 1) zad))))),R vs H Q E h⟩
abbrev za9:Stmt:=zbh (top 25) 4
theorem zhh:zav ["self","k"] ["self","k"] (zaa za9):=⟨rfl,rfl,rfl,by decide +kernel,rfl,by decide +kernel,by decide +kernel⟩
theorem zhi(T:Txt K mg a)(F:Fun K "record_mark" "Layout.record_mark" za9 f fd)(m_Layout_place_from:MCal P w K mg base (a "Layout") 1 "place_from" ["self","block","k"] (zam K a))(m_Layout_blocks_ahead_of_marks:MCal P w K mg base (a "Layout") 1 "blocks_ahead_of_marks" ["self"] (zag K a))
  (R:RdOk (zal K a) (zcm K a) ["self","k"]) (L:zcu (zal K a) 2) :
  FnOk P w K mg base (cxE P w) 2 f fd ["self","k"] (zal K a):=by
 refine F.okE zhh L (λcdv A outer s H vs Q E hr h=> ?_)
 have hx:XOk (cxOf (cxE P w) P w K mg base ["self","k"] "Layout.record_mark" (zaa za9) f cdv A outer s H E) (λ_=>E):=zbj
 exact⟨zcm K a (λ_=>E),(zaj (zbf (zax (pvr 0) T.c_Layout m_Layout_place_from (hr.mono (by decide)) hx.passes (zab (zce (pvr 0) T.c_Layout m_Layout_blocks_ahead_of_marks (hr.mono (by decide)) hx.passes) (zab (pvr 1) zad))))),R vs H Q E h⟩
abbrev zcb:Stmt:=zbh (top 25) 7
theorem zma:zav ["self"] ["self"] (zaa zcb):=⟨rfl,rfl,rfl,by decide +kernel,rfl,by decide +kernel,by decide +kernel⟩
theorem zmb(T:Txt K mg a)(F:Fun K "blocks" "Layout.blocks" zcb f fd)(m_Layout_blocks_ahead_of_marks:MCal P w K mg base (a "Layout") 1 "blocks_ahead_of_marks" ["self"] (zag K a))
  (R:RdOk (zbn K a) (zdy K a) ["self"]) (L:zcu (zbn K a) 1) :
  FnOk P w K mg base (cxE P w) 2 f fd ["self"] (zbn K a):=by
 refine F.okE zma L (λcdv A outer s H vs Q E hr h=> ?_)
 have hx:XOk (cxOf (cxE P w) P w K mg base ["self"] "Layout.blocks" (zaa zcb) f cdv A outer s H E) (λ_=>E):=zbj
 exact⟨zdy K a (λ_=>E),(zaj (zbf (zbx zct (zbx zct (zce (pvr 0) T.c_Layout m_Layout_blocks_ahead_of_marks (hr.mono (by decide)) hx.passes) (za4 (pvr 0) rfl)) (za4 (pvr 0) rfl)))),R vs H Q E h⟩
abbrev zc5:Stmt:=zbh (top 10) 3
theorem zob:zav ["self","place"] ["self","place"] (zaa zc5):=⟨rfl,rfl,rfl,by decide +kernel,rfl,by decide +kernel,by decide +kernel⟩
theorem zoc(T:Txt K mg a)(F:Fun K "newest" "Book.newest" zc5 f fd)(m_Hold_ask_for_place:MCal P w K mg base (a "Hold") 2 "ask_for_place" ["self","place"] (za2 K a))
  (R:RdOk (zbl K a) (zes K a) ["self","place"]) (L:zcu (zbl K a) 2) :
  FnOk P w K mg base (cxE P w) 3 f fd ["self","place"] (zbl K a):=by
 refine F.okE zob L (λcdv A outer s H vs Q E hr h=> ?_)
 have hx:XOk (cxOf (cxE P w) P w K mg base ["self","place"] "Book.newest" (zaa zc5) f cdv A outer s H E) (λ_=>E):=zbj
 exact⟨zes K a (λ_=>E),(zai (zft (zax (pvr 0) T.c_Hold m_Hold_ask_for_place (hr.mono (by decide)) hx.passes (zab (pvr 1) zad)))
   (zaj (zbf (zwg (zwi hr) (za4 (pvr 0) rfl) (pvr 1) ⟨rfl,rfl,rfl,rfl⟩)))),R vs H Q E h⟩
abbrev zcq:Stmt:=zbh (top 25) 8
theorem znk:zav ["self"] ["self"] (zaa zcq):=⟨rfl,rfl,rfl,by decide +kernel,rfl,by decide +kernel,by decide +kernel⟩
theorem znl(T:Txt K mg a)(F:Fun K "plank" "Layout.plank" zcq f fd)(m_Layout_blocks:MCal P w K mg base (a "Layout") 2 "blocks" ["self"] (zbn K a))(n_Plank:NCal P w K mg base (a "Plank") 1 "Plank" ["self","blocks","cells"] (zcf K a))
  (R:RdOk (zbv K a) (zeb K a) ["self"]) (L:zcu (zbv K a) 1) :
  FnOk P w K mg base (cxE P w) 3 f fd ["self"] (zbv K a):=by
 refine F.okE znk L (λcdv A outer s H vs Q E hr h=> ?_)
 have hx:XOk (cxOf (cxE P w) P w K mg base ["self"] "Layout.plank" (zaa zcq) f cdv A outer s H E) (λ_=>E):=zbj
 exact⟨zeb K a (λ_=>E),(zaj (zbf (zjn n_Plank (hr.mono (by decide)) hx.passes rfl (zab (zce (pvr 0) T.c_Layout m_Layout_blocks (hr.mono (by decide)) hx.passes) (zab (za4 (pvr 0) rfl) zad))))),R vs H Q E h⟩
abbrev zc6:Stmt:=zbh (top 10) 1
theorem sc_Book_change:zav ["self","place","value","needs","ahead","number"] ["self","place","value","needs"] (zaa zc6):=⟨rfl,rfl,rfl,by decide +kernel,rfl,by decide +kernel,by decide +kernel⟩
theorem zod(T:Txt K mg a)(F:Fun K "change" "Book.change" zc6 f fd)(m_Hold_newest:MCal P w K mg base (a "Hold") 3 "newest" ["self","place"] (zbl K a))(m_Hold_ask_for_changes:MCal P w K mg base (a "Hold") 1 "ask_for_changes" ["self","numbers"] (zan K a))(c_needs_with:Cal P w K mg base (1) "needs_with" ["needs","ahead"] (zci K a))(n_Change:NCal P w K mg base (a "Change") 1 "Change" ["self","place","value","needs"] (zb6 K a))
  (R:RdOk (za6 K a) (zet K a) ["self","place","value","needs","ahead","number"]) (L:zcu (za6 K a) 4) :
  FnOk P w K mg base (cxE P w) 4 f fd ["self","place","value","needs"] (za6 K a):=by
 refine F.okE sc_Book_change L (λcdv A outer s H vs Q E hr h=> ?_)
 have hx:XOk (cxOf (cxE P w) P w K mg base ["self","place","value","needs","ahead","number"] "Book.change" (zaa zc6) f cdv A outer s H E) (λ_=>E):=zbj
 exact⟨zet K a (λ_=>E),(zai (zdt (i:=4) sc_Book_change.nd rfl (Or.inl rfl) (zax (pvr 0) T.c_Hold m_Hold_newest (hr.mono (by decide)) hx.passes (zab (pvr 1) zad)))
   (zai (zft (zax (pvr 0) T.c_Hold m_Hold_ask_for_changes (hr.mono (by decide)) hx.passes (zab (pvr 3) zad)))
   (zai (zdt (i:=5) sc_Book_change.nd rfl (Or.inl rfl) (zb1 zd6 rfl T.b_len (by rfl) (zab (za4 (pvr 0) rfl) zad)))
   (zai (zft (zwa PySem.F.plainAttrs_list PySem.F.slot_list_append PySem.F.type_list_append zjl (za4 (pvr 0) rfl) (zab (zjn n_Change (hr.mono (by decide)) hx.passes rfl (zab (pvr 1) (zab (pvr 2) (zab (zel c_needs_with (hr.mono (by decide)) hx.passes rfl (zab (pvr 3) (zab (pvr 4) zad))) zad)))) zad)))
   (zai (zft (zwa PySem.F.plainAttrs_list PySem.F.slot_list_append PySem.F.type_list_append zjl (zfu zdu (za4 (pvr 0) rfl) (zfu zdu (pvr 1) zaq (λ_ _=>rfl)) (λ_ _=>rfl)) (zab (pvr 5) zad)))
   (zai (zyk (zwi hr) (za4 (pvr 0) rfl) (pvr 1) (pvr 5) rfl)
   (zaj (zbf (pvr 5))))))))),R vs H Q E h⟩
abbrev zcr:Stmt:=zbh (top 10) 2
theorem sc_Book_in_hand:zav ["self","place","number"] ["self","place"] (zaa zcr):=⟨rfl,rfl,rfl,by decide +kernel,rfl,by decide +kernel,by decide +kernel⟩
theorem znm(T:Txt K mg a)(F:Fun K "in_hand" "Book.in_hand" zcr f fd)(m_Hold_newest:MCal P w K mg base (a "Hold") 3 "newest" ["self","place"] (zbl K a))(m_Plank_read:MCal P w K mg base (a "Plank") 2 "read" ["self","block"] (zcg K a))
  (R:RdOk (zay K a) (zec K a) ["self","place","number"]) (L:zcu (zay K a) 2) :
  FnOk P w K mg base (cxE P w) 4 f fd ["self","place"] (zay K a):=by
 refine F.okE sc_Book_in_hand L (λcdv A outer s H vs Q E hr h=> ?_)
 have hx:XOk (cxOf (cxE P w) P w K mg base ["self","place","number"] "Book.in_hand" (zaa zcr) f cdv A outer s H E) (λ_=>E):=zbj
 exact⟨zec K a (λ_=>E),(zai (zdt (i:=2) sc_Book_in_hand.nd rfl (Or.inl rfl) (zax (pvr 0) T.c_Hold m_Hold_newest (hr.mono (by decide)) hx.passes (zab (pvr 1) zad)))
   (zai (zga (zdr zxp (pvr 2) zjh (ze5 _)) (zaj (zbf (zfu zdu (zax (za4 (pvr 0) rfl) T.c_Plank m_Plank_read (hr.mono (by decide)) hx.passes (zab (zfu zdu (pvr 1) zaq (λ_ _=>rfl)) zad)) (zfu zdu (pvr 1) zaq (λ_ _=>rfl)) (λ_ _=>rfl)))) zc9)
   (zaj (zbf (za4 (zfu zdu (za4 (pvr 0) rfl) (pvr 2) (λ_ _=>rfl)) rfl))))),R vs H Q E h⟩
abbrev zdl:Stmt:=zbh (top 21) 0
theorem zp1:zav ["self","layout","plank"] ["self","layout","plank"] (zaa zdl):=⟨rfl,rfl,rfl,by decide +kernel,rfl,by decide +kernel,by decide +kernel⟩
theorem zp2(T:Txt K mg a)(F:Fun K "__init__" "Store.__init__" zdl f fd)(n_Hold:NCal P w K mg base (a "Hold") 2 "Hold" ["self","plank"] (zch K a))
  (R:RdOk (zcj K a) (zfc K a) ["self","layout","plank"]) (L:zcu (zcj K a) 3) :
  FnOk P w K mg base (cxE P w) 4 f fd ["self","layout","plank"] (zcj K a):=by
 refine F.okE zp1 L (λcdv A outer s H vs Q E hr h=> ?_)
 have hx:XOk (cxOf (cxE P w) P w K mg base ["self","layout","plank"] "Store.__init__" (zaa zdl) f cdv A outer s H E) (λ_=>E):=zbj
 exact⟨zfc K a (λ_=>E),(zai (zef (pvr 0) (pvr 1) rfl)
   (zai (zef (pvr 0) (zjn n_Hold (hr.mono (by decide)) hx.passes rfl (zab (pvr 2) zad)) rfl)
   (zaj (zef (pvr 0) zsv rfl)))),R vs H Q E h⟩
abbrev zc7:Stmt:=top 19
theorem sc_lowest_with:zav ["hold","places","values","k","place"] ["hold","places","values"] (zaa zc7):=⟨rfl,rfl,rfl,by decide +kernel,rfl,by decide +kernel,by decide +kernel⟩
theorem zoe(T:Txt K mg a)(F:Fun K "lowest_with" "lowest_with" zc7 f fd)(m_Hold_in_hand:MCal P w K mg base (a "Hold") 4 "in_hand" ["self","place"] (zay K a))
  (R:RdOk (zbe K a) (zeu K a) ["hold","places","values","k","place"]) (L:zcu (zbe K a) 3) :
  FnOk P w K mg base (cxE P w) 5 f fd ["hold","places","values"] (zbe K a):=by
 refine F.okE sc_lowest_with L (λcdv A outer s H vs Q E hr h=> ?_)
 have hx:XOk (cxOf (cxE P w) P w K mg base ["hold","places","values","k","place"] "lowest_with" (zaa zc7) f cdv A outer s H E) (λ_=>E):=zbj
 exact⟨zeu K a (λ_=>E),(zai (zp7 hx.po rfl (zvn rfl T.b_enumerate (zab (pvr 1) zad)) (zxn rfl (zme (zd0 (i:=3) sc_lowest_with.nd rfl (Or.inl rfl)) (zme (zd0 (i:=4) sc_lowest_with.nd rfl (Or.inl rfl)) zt9))) (zaj (zga (zdr (zaby hr.units) (zax (pvr 0) T.c_Hold m_Hold_in_hand (hr.mono (by decide)) hx.passes (zab (pvr 4) zad)) (pvr 2) (by with_unfolding_all rfl)) (zaj (zbf (pvr 3))) zc9)))
   (zaj (zhl hx T.x_NoRoom rfl T.r_NoRoom (zab zh3 zad)))),R vs H Q E h⟩
abbrev zbb:Stmt:=zbh (top 21) 16
theorem zjf:zav ["self"] ["self"] (zaa zbb):=⟨rfl,rfl,rfl,by decide +kernel,rfl,by decide +kernel,by decide +kernel⟩
theorem zjg(T:Txt K mg a)(F:Fun K "name_cells" "Store.name_cells" zbb f fd)(m_Layout_counts:MCal P w K mg base (a "Layout") 1 "counts" ["self"] (za1 K a))(m_Hold_in_hand:MCal P w K mg base (a "Hold") 4 "in_hand" ["self","place"] (zay K a))(m_Layout_name_at:MCal P w K mg base (a "Layout") 2 "name_at" ["self","k"] (zap K a))
  (R:RdOk (za0 K a) (zcz K a) ["self"]) (L:zcu (za0 K a) 1) :
  FnOk P w K mg base (cxE P w) 5 f fd ["self"] (za0 K a):=by
 refine F.okE zjf L (λcdv A outer s H vs Q E hr h=> ?_)
 have hx:XOk (cxOf (cxE P w) P w K mg base ["self"] "Store.name_cells" (zaa zbb) f cdv A outer s H E) (λ_=>E):=zbj
 exact⟨zcz K a (λ_=>E),(zaj (zbf (zkg (tn:=["k"]) (cn:=["self"]) (cap:=[0]) (zk9 (outer:=zaa zbb) (N:=["self"]) rfl rfl (by decide +kernel)) rfl (zf3 rfl T.b_range (zab (zfu zdu (zce (za4 (pvr 0) rfl) T.c_Layout m_Layout_counts (hr.mono (by decide)) hx.passes) zaq (λ_ _=>rfl)) zad)) (λ_ _ _ _ _ _=>(zd0 (i:=0) (show(["k","self"]:List Str).Nodup from by decide +kernel) rfl (Or.inl rfl))) (λ_ _ _ _ _ _=>zh9) (λ_ _ _ _ _ _=>(zax (za4 (pvr 1) rfl) T.c_Hold m_Hold_in_hand (hr.mono (by decide)) zmo (zab (zax (za4 (pvr 1) rfl) T.c_Layout m_Layout_name_at (hr.mono (by decide)) zmo (zab (pvr 0) zad)) zad)))))),R vs H Q E h⟩
abbrev zbp:Stmt:=zbh (top 21) 18
theorem sc_Store_fill_cell:zav ["self","cell","name","record","need","needs"] ["self","cell","name","record","need"] (zaa zbp):=⟨rfl,rfl,rfl,by decide +kernel,rfl,by decide +kernel,by decide +kernel⟩
theorem zkd(T:Txt K mg a)(F:Fun K "fill_cell" "Store.fill_cell" zbp f fd)(m_Hold_change:MCal P w K mg base (a "Hold") 4 "change" ["self","place","value","needs"] (za6 K a))(m_Layout_name_at:MCal P w K mg base (a "Layout") 2 "name_at" ["self","k"] (zap K a))
  (R:RdOk (zba K a) (zde K a) ["self","cell","name","record","need","needs"]) (L:zcu (zba K a) 5) :
  FnOk P w K mg base (cxE P w) 5 f fd ["self","cell","name","record","need"] (zba K a):=by
 refine F.okE sc_Store_fill_cell L (λcdv A outer s H vs Q E hr h=> ?_)
 have hx:XOk (cxOf (cxE P w) P w K mg base ["self","cell","name","record","need","needs"] "Store.fill_cell" (zaa zbp) f cdv A outer s H E) (λ_=>E):=zbj
 exact⟨zde K a (λ_=>E),(zai (zdt (i:=5) sc_Store_fill_cell.nd rfl (Or.inl rfl) (zfg (zab (pvr 4) zad)))
   (zai (zga (zaaa (zaar (zwi hr) (pvr 2) (za4 (pvr 0) rfl)) (by with_unfolding_all rfl)) (zaj (zft (zwa PySem.F.plainAttrs_list PySem.F.slot_list_append PySem.F.type_list_append zjl (pvr 5) (zab (zyj (zwi hr) (za4 (pvr 0) rfl) (pvr 2) (λ_ _=>rfl)) zad)))) zc9)
   (zaj (zbf (zax (za4 (pvr 0) rfl) T.c_Hold m_Hold_change (hr.mono (by decide)) hx.passes (zab (zax (za4 (pvr 0) rfl) T.c_Layout m_Layout_name_at (hr.mono (by decide)) hx.passes (zab (pvr 1) zad)) (zab (zg1 (zab (pvr 2) (zab (pvr 3) zad))) (zab (pvr 5) zad)))))))),R vs H Q E h⟩
abbrev zdm:Stmt:=top 17
theorem sc_free_name:zav ["layout","hold","places"] ["layout","hold"] (zaa zdm):=⟨rfl,rfl,rfl,by decide +kernel,rfl,by decide +kernel,by decide +kernel⟩
theorem zrn(T:Txt K mg a)(F:Fun K "free_name" "free_name" zdm f fd)(m_Layout_counts:MCal P w K mg base (a "Layout") 1 "counts" ["self"] (za1 K a))(m_Layout_name_at:MCal P w K mg base (a "Layout") 2 "name_at" ["self","k"] (zap K a))(c_lowest_with:Cal P w K mg base (5) "lowest_with" ["hold","places","values"] (zbe K a))
  (R:RdOk (zcv K a) (zfs K a) ["layout","hold","places"]) (L:zcu (zcv K a) 2) :
  FnOk P w K mg base (cxE P w) 6 f fd ["layout","hold"] (zcv K a):=by
 refine F.okE sc_free_name L (λcdv A outer s H vs Q E hr h=> ?_)
 have hx:XOk (cxOf (cxE P w) P w K mg base ["layout","hold","places"] "free_name" (zaa zdm) f cdv A outer s H E) (λ_=>E):=zbj
 exact⟨zfs K a (λ_=>E),(zai (zuy (i:=2) (tn:=["k"]) (cn:=["layout"]) (cap:=[0]) (zk9 (outer:=zaa zdm) (N:=["layout","hold","places"]) rfl rfl (by decide +kernel)) rfl sc_free_name.nd rfl rfl (zf3 rfl T.b_range (zab (zfu zdu (zce (pvr 0) T.c_Layout m_Layout_counts (hr.mono (by decide)) hx.passes) zaq (λ_ _=>rfl)) zad)) (λ_ _ _ _ _ _=>(zd0 (i:=0) (show(["k","layout"]:List Str).Nodup from by decide +kernel) rfl (Or.inl rfl))) (λ_ _ _ _ _ _=>zh9) (λ_ _ _ _ _ _=>(zax (pvr 1) T.c_Layout m_Layout_name_at (hr.mono (by decide)) zmo (zab (pvr 0) zad))))
   (zaj (zbf (zel c_lowest_with (hr.mono (by decide)) hx.passes rfl (zab (pvr 1) (zab (pvr 2) (zab (zg1 (zab zjh zad)) zad))))))),R vs H Q E h⟩
abbrev zcn:Stmt:=top 18
theorem sc_free_record:zav ["layout","hold","marks"] ["layout","hold"] (zaa zcn):=⟨rfl,rfl,rfl,by decide +kernel,rfl,by decide +kernel,by decide +kernel⟩
theorem zof(T:Txt K mg a)(F:Fun K "free_record" "free_record" zcn f fd)(m_Layout_counts:MCal P w K mg base (a "Layout") 1 "counts" ["self"] (za1 K a))(m_Layout_record_mark:MCal P w K mg base (a "Layout") 2 "record_mark" ["self","k"] (zal K a))(c_lowest_with:Cal P w K mg base (5) "lowest_with" ["hold","places","values"] (zbe K a))
  (R:RdOk (zb7 K a) (zev K a) ["layout","hold","marks"]) (L:zcu (zb7 K a) 2) :
  FnOk P w K mg base (cxE P w) 6 f fd ["layout","hold"] (zb7 K a):=by
 refine F.okE sc_free_record L (λcdv A outer s H vs Q E hr h=> ?_)
 have hx:XOk (cxOf (cxE P w) P w K mg base ["layout","hold","marks"] "free_record" (zaa zcn) f cdv A outer s H E) (λ_=>E):=zbj
 exact⟨zev K a (λ_=>E),(zai (zuy (i:=2) (tn:=["k"]) (cn:=["layout"]) (cap:=[0]) (zk9 (outer:=zaa zcn) (N:=["layout","hold","marks"]) rfl rfl (by decide +kernel)) rfl sc_free_record.nd rfl rfl (zf3 rfl T.b_range (zab (zfu zdu (zce (pvr 0) T.c_Layout m_Layout_counts (hr.mono (by decide)) hx.passes) zaq (λ_ _=>rfl)) zad)) (λ_ _ _ _ _ _=>(zd0 (i:=0) (show(["k","layout"]:List Str).Nodup from by decide +kernel) rfl (Or.inl rfl))) (λ_ _ _ _ _ _=>zh9) (λ_ _ _ _ _ _=>(zax (pvr 1) T.c_Layout m_Layout_record_mark (hr.mono (by decide)) zmo (zab (pvr 0) zad))))
   (zaj (zbf (zel c_lowest_with (hr.mono (by decide)) hx.passes rfl (zab (pvr 1) (zab (pvr 2) (zab (zg1 (zab zjh (zab zaq zad))) zad))))))),R vs H Q E h⟩
abbrev zco:Stmt:=zbh (top 21) 7
theorem zog:zav ["self"] ["self"] (zaa zco):=⟨rfl,rfl,rfl,by decide +kernel,rfl,by decide +kernel,by decide +kernel⟩
theorem zoh(T:Txt K mg a)(F:Fun K "names" "Store.names" zco f fd)(m_Store_name_cells:MCal P w K mg base (a "Store") 5 "name_cells" ["self"] (za0 K a))
  (R:RdOk (zb8 K a) (zew K a) ["self"]) (L:zcu (zb8 K a) 1) :
  FnOk P w K mg base (cxE P w) 6 f fd ["self"] (zb8 K a):=by
 refine F.okE zog L (λcdv A outer s H vs Q E hr h=> ?_)
 have hx:XOk (cxOf (cxE P w) P w K mg base ["self"] "Store.names" (zaa zco) f cdv A outer s H E) (λ_=>E):=zbj
 exact⟨zew K a (λ_=>E),(zaj (zbf (zb1 (zld rfl) rfl T.b_sorted (by rfl) (zab (zkg (tn:=["value"]) (cn:=[]) (cap:=[]) (zk9 (outer:=zaa zco) (N:=["self"]) rfl rfl (by decide +kernel)) rfl (zs0 (zce (pvr 0) T.c_Store m_Store_name_cells (hr.mono (by decide)) hx.passes)) (λ_ _ _ _ _ _=>(zd0 (i:=0) (show(["value"]:List Str).Nodup from by decide +kernel) rfl (Or.inl rfl))) (λ_ _ _ _ _ _=>(zym (zdr zrr (pvr 0) zjh (ze5 _)))) (λ_ _ _ _ _ _=>(zfu zdu (pvr 0) zaq (λ_ _=>rfl)))) zad)))),R vs H Q E h⟩
abbrev zcc:Stmt:=zbh (top 21) 15
theorem sc_Store_cell_of:zav ["self","name","cell","value"] ["self","name"] (zaa zcc):=⟨rfl,rfl,rfl,by decide +kernel,rfl,by decide +kernel,by decide +kernel⟩
theorem zmc(T:Txt K mg a)(F:Fun K "cell_of" "Store.cell_of" zcc f fd)(m_Store_name_cells:MCal P w K mg base (a "Store") 5 "name_cells" ["self"] (za0 K a))
  (R:RdOk (zbo K a) (zdz K a) ["self","name","cell","value"]) (L:zcu (zbo K a) 2) :
  FnOk P w K mg base (cxE P w) 6 f fd ["self","name"] (zbo K a):=by
 refine F.okE sc_Store_cell_of L (λcdv A outer s H vs Q E hr h=> ?_)
 have hx:XOk (cxOf (cxE P w) P w K mg base ["self","name","cell","value"] "Store.cell_of" (zaa zcc) f cdv A outer s H E) (λ_=>E):=zbj
 exact⟨zdz K a (λ_=>E),(zai (zp7 hx.po rfl (zvn rfl T.b_enumerate (zab (zce (pvr 0) T.c_Store m_Store_name_cells (hr.mono (by decide)) hx.passes) zad)) (zxn rfl (zme (zd0 (i:=2) sc_Store_cell_of.nd rfl (Or.inl rfl)) (zme (zd0 (i:=3) sc_Store_cell_of.nd rfl (Or.inl rfl)) zt9))) (zaj (zga (PW.pt (zaab (zdr zrr (pvr 3) zjh (ze5 _)) (zx1 (zdr (zxs hr.units) (zfu zdu (pvr 3) zaq (λ_ _=>rfl)) (pvr 1) (ze5 _))))) (zaj (zbf (pvr 2))) zc9)))
   (zaj (zbf zjh))),R vs H Q E h⟩
abbrev zau:Stmt:=zbh (top 21) 13
theorem zf0:zav ["self","new","given"] ["self","new","given"] (zaa zau):=⟨rfl,rfl,rfl,by decide +kernel,rfl,by decide +kernel,by decide +kernel⟩
theorem zf1(T:Txt K mg a)(F:Fun K "ask_for_new_name" "Store.ask_for_new_name" zau f fd)(c_is_name:Cal P w K mg base (1) "is_name" ["thing"] (zd3 K a))(m_Store_cell_of:MCal P w K mg base (a "Store") 6 "cell_of" ["self","name"] (zbo K a))
  (R:RdOk (zar K a) (zbu K a) ["self","new","given"]) (L:zcu (zar K a) 3) :
  FnOk P w K mg base (cxE P w) 7 f fd ["self","new","given"] (zar K a):=by
 refine F.okE zf0 L (λcdv A outer s H vs Q E hr h=> ?_)
 have hx:XOk (cxOf (cxE P w) P w K mg base ["self","new","given"] "Store.ask_for_new_name" (zaa zau) f cdv A outer s H E) (λ_=>E):=zbj
 exact⟨zbu K a (λ_=>E),(zai (zga (zk4 (zjj (zb1 (zqs rfl) rfl T.b_all (by rfl) (zab (zkg (tn:=["text"]) (cn:=[]) (cap:=[]) (zk9 (outer:=zaa zau) (N:=["self","new","given"]) rfl rfl (by decide +kernel)) rfl (zs0 (pvr 2)) (λ_ _ _ _ _ _=>(zd0 (i:=0) (show(["text"]:List Str).Nodup from by decide +kernel) rfl (Or.inl rfl))) (λ_ _ _ _ _ _=>zh9) (λ_ _ _ _ _ _=>(zel c_is_name (hr.mono (by decide)) zmo rfl (zab (pvr 0) zad)))) zad)) (λ_=>rfl))) (zaj (zhl hx T.x_NoName rfl T.r_NoName (zab zh3 zad))) zc9)
   (zaj (zga (zdr zrr (zax (pvr 0) T.c_Store m_Store_cell_of (hr.mono (by decide)) hx.passes (zab (pvr 1) zad)) zjh (ze5 _)) (zaj (zhl hx T.x_Twice rfl T.r_Twice (zab zh3 zad))) zc9))),R vs H Q E h⟩
abbrev zdn:Stmt:=zbh (top 21) 1
theorem sc_Store_make:zav ["self","name","record","cell","mark","stands"] ["self","name"] (zaa zdn):=⟨rfl,rfl,rfl,by decide +kernel,rfl,by decide +kernel,by decide +kernel⟩
theorem zp3(T:Txt K mg a)(F:Fun K "make" "Store.make" zdn f fd)(m_Store_ask_for_new_name:MCal P w K mg base (a "Store") 7 "ask_for_new_name" ["self","new","given"] (zar K a))(c_free_record:Cal P w K mg base (6) "free_record" ["layout","hold"] (zb7 K a))(c_free_name:Cal P w K mg base (6) "free_name" ["layout","hold"] (zcv K a))(m_Hold_change:MCal P w K mg base (a "Hold") 4 "change" ["self","place","value","needs"] (za6 K a))(m_Layout_record_mark:MCal P w K mg base (a "Layout") 2 "record_mark" ["self","k"] (zal K a))(m_Layout_record_at:MCal P w K mg base (a "Layout") 2 "record_at" ["self","k"] (zaz K a))(m_Store_fill_cell:MCal P w K mg base (a "Store") 5 "fill_cell" ["self","cell","name","record","need"] (zba K a))
  (R:RdOk (zbt K a) (zfd K a) ["self","name","record","cell","mark","stands"]) (L:zcu (zbt K a) 2) :
  FnOk P w K mg base (cxE P w) 8 f fd ["self","name"] (zbt K a):=by
 refine F.okE sc_Store_make L (λcdv A outer s H vs Q E hr h=> ?_)
 have hx:XOk (cxOf (cxE P w) P w K mg base ["self","name","record","cell","mark","stands"] "Store.make" (zaa zdn) f cdv A outer s H E) (λ_=>E):=zbj
 exact⟨zfd K a (λ_=>E),(zai (zft (zax (pvr 0) T.c_Store m_Store_ask_for_new_name (hr.mono (by decide)) hx.passes (zab (pvr 1) (zab (zfg (zab (pvr 1) zad)) zad))))
   (zai (zdt (i:=2) sc_Store_make.nd rfl (Or.inl rfl) (zel c_free_record (hr.mono (by decide)) hx.passes rfl (zab (za4 (pvr 0) rfl) (zab (za4 (pvr 0) rfl) zad))))
   (zai (zdt (i:=3) sc_Store_make.nd rfl (Or.inl rfl) (zel c_free_name (hr.mono (by decide)) hx.passes rfl (zab (za4 (pvr 0) rfl) (zab (za4 (pvr 0) rfl) zad))))
   (zai (zdt (i:=4) sc_Store_make.nd rfl (Or.inl rfl) (zax (za4 (pvr 0) rfl) T.c_Hold m_Hold_change (hr.mono (by decide)) hx.passes (zab (zax (za4 (pvr 0) rfl) T.c_Layout m_Layout_record_mark (hr.mono (by decide)) hx.passes (zab (pvr 2) zad)) (zab zaq (zab (zfg zad) zad)))))
   (zai (zdt (i:=5) sc_Store_make.nd rfl (Or.inl rfl) (zax (za4 (pvr 0) rfl) T.c_Hold m_Hold_change (hr.mono (by decide)) hx.passes (zab (zax (za4 (pvr 0) rfl) T.c_Layout m_Layout_record_at (hr.mono (by decide)) hx.passes (zab (pvr 2) zad)) (zab (zg1 (zab zaq (zab (zg1 zad) zad))) (zab (zfg (zab (pvr 4) zad)) zad)))))
   (zaj (zbf (zfg (zab (pvr 4) (zab (pvr 5) (zab (zax (pvr 0) T.c_Store m_Store_fill_cell (hr.mono (by decide)) hx.passes (zab (pvr 3) (zab (pvr 1) (zab (pvr 2) (zab (pvr 5) zad))))) zad))))))))))),R vs H Q E h⟩
abbrev zek:Stmt:=top 29
theorem sc_law_made:zav ["layout","store","name","k","told","hold"] ["layout","store","name","k"] (zaa zek):=⟨rfl,rfl,rfl,by decide +kernel,rfl,by decide +kernel,by decide +kernel⟩
theorem zso(T:Txt K mg a)(F:Fun K "_law_made" "_law_made" zek f fd)(m_Store_make:MCal P w K mg base (a "Store") 8 "make" ["self","name"] (zbt K a))(m_Store_hold:MCal P w K mg base (a "Store") 1 "hold" ["self"] (zck K a))(m_Hold_in_hand:MCal P w K mg base (a "Hold") 4 "in_hand" ["self","place"] (zay K a))(m_Layout_record_at:MCal P w K mg base (a "Layout") 2 "record_at" ["self","k"] (zaz K a))(m_Layout_record_mark:MCal P w K mg base (a "Layout") 2 "record_mark" ["self","k"] (zal K a))(m_Layout_name_at:MCal P w K mg base (a "Layout") 2 "name_at" ["self","k"] (zap K a))(m_Hold_needed:MCal P w K mg base (a "Hold") 2 "needed" ["self","number"] (zbd K a))
  (R:RdOk (zdg K a) (zgn K a) ["layout","store","name","k","told","hold"]) (L:zcu (zdg K a) 4) :
  FnOk P w K mg base (cxE P w) 9 f fd ["layout","store","name","k"] (zdg K a):=by
 refine F.okE sc_law_made L (λcdv A outer s H vs Q E hr h=> ?_)
 have hx:XOk (cxOf (cxE P w) P w K mg base ["layout","store","name","k","told","hold"] "_law_made" (zaa zek) f cdv A outer s H E) (λ_=>E):=zbj
 exact⟨zgn K a (λ_=>E),(zai (zdt (i:=4) sc_law_made.nd rfl (Or.inl rfl) (zax (pvr 1) T.c_Store m_Store_make (hr.mono (by decide)) hx.passes (zab (pvr 2) zad)))
   (zai (zga (PW.pt (zt8 (zk4 (zjj (zb1 zgd rfl T.b_isinstance (by rfl) (zab (pvr 4) (zab (zrq rfl T.b_list (by rfl) rfl) zad))) (λ_=>rfl))) (zt8 (zdr (zmp hr.units) (pvr 4) (zfg (zab (zbx zeg zaq (pvr 3)) (zab (zbx zct (zbx zeg zaq (pvr 3)) zaq) (zab (zbx zct (zbx zeg zaq (pvr 3)) zaq) zad)))) (ze5 _)) (zsp (zjj (zb1 zgd rfl T.b_isinstance (by rfl) (zab (zfu zdu (pvr 4) zaq (λ_ _=>rfl)) (zab (zrq rfl T.b_bool (by rfl) rfl) zad))) (λ_=>rfl)))))) (zaj (zbf zox)) zc9)
   (zai (zdt (i:=5) sc_law_made.nd rfl (Or.inl rfl) (zce (pvr 1) T.c_Store m_Store_hold (hr.mono (by decide)) hx.passes))
   (zai (zga (PW.pt (zt8 (zdr (zmp hr.units) (zax (pvr 5) T.c_Hold m_Hold_in_hand (hr.mono (by decide)) hx.passes (zab (zax (pvr 0) T.c_Layout m_Layout_record_mark (hr.mono (by decide)) hx.passes (zab (pvr 3) zad)) zad)) zaq (ze5 _)) (zsp (zdr (zmp hr.units) (zax (pvr 5) T.c_Hold m_Hold_in_hand (hr.mono (by decide)) hx.passes (zab (zax (pvr 0) T.c_Layout m_Layout_record_at (hr.mono (by decide)) hx.passes (zab (pvr 3) zad)) zad)) (zg1 (zab zaq (zab (zg1 zad) zad))) (ze5 _))))) (zaj (zbf zox)) zc9)
   (zai (zga (zdr (zmp hr.units) (zax (pvr 5) T.c_Hold m_Hold_in_hand (hr.mono (by decide)) hx.passes (zab (zax (pvr 0) T.c_Layout m_Layout_name_at (hr.mono (by decide)) hx.passes (zab (pvr 3) zad)) zad)) (zg1 (zab (pvr 2) (zab (pvr 3) zad))) (ze5 _)) (zaj (zbf zox)) zc9)
   (zai (zga (PW.pt (zt8 (zdr (zmp hr.units) (zax (pvr 5) T.c_Hold m_Hold_needed (hr.mono (by decide)) hx.passes (zab (zbx zeg zaq (pvr 3)) zad)) (zfg zad) (ze5 _)) (zsp (zdr (zmp hr.units) (zax (pvr 5) T.c_Hold m_Hold_needed (hr.mono (by decide)) hx.passes (zab (zbx zct (zbx zeg zaq (pvr 3)) zaq) zad)) (zfg (zab (zbx zeg zaq (pvr 3)) zad)) (ze5 _))))) (zaj (zbf zox)) zc9)
   (zaj (zbf (zx2 (zxs hr.units) (zax (pvr 5) T.c_Hold m_Hold_needed (hr.mono (by decide)) hx.passes (zab (zbx zct (zbx zeg zaq (pvr 3)) zaq) zad)) (zfg (zab (zbx zct (zbx zeg zaq (pvr 3)) zaq) zad)) (ze5 _)))))))))),R vs H Q E h⟩
abbrev zc8:Stmt:=top 30
theorem sc_law_refused:zav ["store","name","refused","e"] ["store","name"] (zaa zc8):=⟨rfl,rfl,rfl,by decide +kernel,rfl,by decide +kernel,by decide +kernel⟩
theorem zoi(T:Txt K mg a)(F:Fun K "_law_refused" "_law_refused" zc8 f fd)(m_Store_make:MCal P w K mg base (a "Store") 8 "make" ["self","name"] (zbt K a))
  (R:RdOk (zb9 K a) (zex K a) ["store","name","refused","e"]) (L:zcu (zb9 K a) 2) :
  FnOk P w K mg base (cxE P w) 9 f fd ["store","name"] (zb9 K a):=by
 refine F.okE sc_law_refused L (λcdv A outer s H vs Q E hr h=> ?_)
 have hx:XOk (cxOf (cxE P w) P w K mg base ["store","name","refused","e"] "_law_refused" (zaa zc8) f cdv A outer s H E) (λ_=>E):=zbj
 exact⟨zex K a (λ_=>E),(zai (zdt (i:=2) sc_law_refused.nd rfl (Or.inl rfl) zox)
   (zai (zaaz rfl rfl rfl rfl (λE1 _ _ hx1=>(zaj (zft (zax (pvr 0) T.c_Store m_Store_make (hr.mono (by decide)) hx1.passes (zab (pvr 1) zad))))) (zuz (i:=3) sc_law_refused.nd rfl rfl (zyo rfl T.r_NoRoom) (λ_=>(zaj (zdt (i:=2) sc_law_refused.nd rfl (Or.inl rfl) (zxm (zb1 zgd rfl T.b_isinstance (by rfl) (zab (pvr 3) (zab (zaau T.g_HoldError rfl) zad))) (zxl (zb1 zgd rfl T.b_isinstance (by rfl) (zab (pvr 3) (zab (zrq rfl T.b_ValueError (by rfl) rfl) zad)))))))) zaax))
   (zaj (zbf (pvr 2))))),R vs H Q E h⟩
abbrev zoj:Stmt:=top 31
theorem sc_law:zav ["script","cell","layout","room","store","names","name"] ["script"] (zaa zoj):=⟨rfl,rfl,rfl,by decide +kernel,rfl,by decide +kernel,by decide +kernel⟩
theorem zaca(T:Txt K mg a)(F:Fun K "law" "law" zoj f fd)(c_law_cell_at:Cal P w K mg base (1) "_law_cell_at" ["script","k"] (zbk K a))(n_Layout:NCal P w K mg base (a "Layout") 1 "Layout" ["self","names","records","pieces","cells"] (zb5 K a))(m_Layout_plank:MCal P w K mg base (a "Layout") 3 "plank" ["self"] (zbv K a))(n_Store:NCal P w K mg base (a "Store") 4 "Store" ["self","layout","plank"] (zcj K a))(c_law_name:Cal P w K mg base (1) "_law_name" ["k","cell"] (zdf K a))(c_law_made:Cal P w K mg base (9) "_law_made" ["layout","store","name","k"] (zdg K a))(c_law_refused:Cal P w K mg base (9) "_law_refused" ["store","name"] (zb9 K a))(m_Store_names:MCal P w K mg base (a "Store") 6 "names" ["self"] (zb8 K a))
  (R:RdOk (zou K a) (zs7 K a) ["script","cell","layout","room","store","names","name"]) (L:zcu (zou K a) 1) :
  FnOk P w K mg base (cxE P w) 10 f fd ["script"] (zou K a):=by
 refine F.okE sc_law L (λcdv A outer s H vs Q E hr h=> ?_)
 have hx:XOk (cxOf (cxE P w) P w K mg base ["script","cell","layout","room","store","names","name"] "law" (zaa zoj) f cdv A outer s H E) (λ_=>E):=zbj
 exact⟨zs7 K a (λ_=>E),(zai (zdt (i:=1) sc_law.nd rfl (Or.inl rfl) (zel c_law_cell_at (hr.mono (by decide)) hx.passes rfl (zab (pvr 0) (zab zaq zad))))
   (zai (zdt (i:=2) sc_law.nd rfl (Or.inl rfl) (zjn n_Layout (hr.mono (by decide)) hx.passes rfl (zab (zbx zct zaq (zbx zg0 (pvr 1) zaq)) (zab (zbx zct zaq (zbx zg0 (zbx zh7 (pvr 1) zaq) zaq)) (zab zaq (zab (zbx zct zaq (zbx zg0 (zbx zh7 (pvr 1) zaq) zaq)) zad))))))
   (zai (zdt (i:=3) sc_law.nd rfl (Or.inl rfl) (zbx zeg (zb1 (zt0 rfl) rfl T.b_min (by rfl) (zab (zbx zct zaq (zbx zg0 (pvr 1) zaq)) (zab (zbx zct zaq (zbx zg0 (zbx zh7 (pvr 1) zaq) zaq)) zad))) (zbx zct zaq (zbx zg0 (zbx zh7 (pvr 1) zaq) zaq))))
   (zai (zdt (i:=4) sc_law.nd rfl (Or.inl rfl) (zjn n_Store (hr.mono (by decide)) hx.passes rfl (zab (pvr 2) (zab (zce (pvr 2) T.c_Layout m_Layout_plank (hr.mono (by decide)) hx.passes) zad))))
   (zai (zdt (i:=5) sc_law.nd rfl (Or.inl rfl) (zfg zad))
   (zai (zp7 hx.po rfl (zs0 (pvr 0)) (zd0 (i:=1) sc_law.nd rfl (Or.inl rfl)) (zai (zdt (i:=6) sc_law.nd rfl (Or.inl rfl) (zel c_law_name (hr.mono (by decide)) hx.passes rfl (zab (zb1 zd6 rfl T.b_len (by rfl) (zab (pvr 5) zad)) (zab (pvr 1) zad))))
   (zai (zga (zdr zoo (zb1 zd6 rfl T.b_len (by rfl) (zab (pvr 5) zad)) (pvr 3) (ze5 _)) (zai (zga (zk4 (zjj (zel c_law_made (hr.mono (by decide)) hx.passes rfl (zab (pvr 2) (zab (pvr 4) (zab (pvr 6) (zab (zb1 zd6 rfl T.b_len (by rfl) (zab (pvr 5) zad)) zad))))) (λ_=>rfl))) (zaj (zbf zox)) zc9)
   (zaj (zft (zwa PySem.F.plainAttrs_list PySem.F.slot_list_append PySem.F.type_list_append zjl (pvr 5) (zab (pvr 6) zad))))) (zaj (zga (zk4 (zjj (zel c_law_refused (hr.mono (by decide)) hx.passes rfl (zab (pvr 4) (zab (pvr 6) zad))) (λ_=>rfl))) (zaj (zbf zox)) zc9)))
   (zaj (zga (zdr (zmp hr.units) (zce (pvr 4) T.c_Store m_Store_names (hr.mono (by decide)) hx.passes) (zb1 (zld rfl) rfl T.b_sorted (by rfl) (zab (pvr 5) zad)) (ze5 _)) (zaj (zbf zox)) zc9)))))
   (zaj (zbf zox)))))))),R vs H Q E h⟩
end
end L2
set_option linter.all false
set_option maxRecDepth 100000
set_option maxHeartbeats 4000000
namespace L2
open PySem PySem.Spec PyProof.Rows
theorem zac8(q7y q7z q80 q81 q82 q83 q84 q85 q86 q87 q88:Addr):∃ a:Ad,a "HoldError"=q7y/\a "NoBlock"=q7z/\a "NoChange"=q80/\a "NoRoom"=q81/\a "NoName"=q82/\a "Twice"=q83/\a "Change"=q84/\a "Hold"=q85/\a "Store"=q86/\a "Plank"=q87/\a "Layout"=q88 :=
 ⟨λs=>if s="HoldError" then q7y else if s="NoBlock" then q7z else if s="NoChange" then q80 else if s="NoRoom" then q81 else if s="NoName" then q82 else if s="Twice" then q83 else if s="Change" then q84 else if s="Hold" then q85 else if s="Store" then q86 else if s="Plank" then q87 else if s="Layout" then q88 else 0,by simp,by simp,by simp,by simp,by simp,by simp,by simp,by simp,by simp,by simp,by simp⟩
theorem us1{α :Type}{P:List α ->Prop}(h:∀ x0,P [x0]):∀ us:List α,us.length=1->P us
 | [],e=>by simp at e
 | [x0],_=>h x0
 | _::_::_,e=>by simp at e
theorem us2{α :Type}{P:List α ->Prop}(h:∀ x0 q7n,P [x0,q7n]):∀ us:List α,us.length=2->P us
 | [],e=>by simp at e
 | [_],e=>by simp at e
 | [x0,q7n],_=>h x0 q7n
 | _::_::_::_,e=>by simp at e
theorem us3{α :Type}{P:List α ->Prop}(h:∀ x0 q7n q7q,P [x0,q7n,q7q]):∀ us:List α,us.length=3->P us
 | [],e=>by simp at e
 | [_],e=>by simp at e
 | [_,_],e=>by simp at e
 | [x0,q7n,q7q],_=>h x0 q7n q7q
 | _::_::_::_::_,e=>by simp at e
theorem us4{α :Type}{P:List α ->Prop}(h:∀ x0 q7n q7q q7r,P [x0,q7n,q7q,q7r]):∀ us:List α,us.length=4->P us
 | [],e=>by simp at e
 | [_],e=>by simp at e
 | [_,_],e=>by simp at e
 | [_,_,_],e=>by simp at e
 | [x0,q7n,q7q,q7r],_=>h x0 q7n q7q q7r
 | _::_::_::_::_::_,e=>by simp at e
theorem us5{α :Type}{P:List α ->Prop}(h:∀ x0 q7n q7q q7r q7s,P [x0,q7n,q7q,q7r,q7s]):∀ us:List α,us.length=5->P us
 | [],e=>by simp at e
 | [_],e=>by simp at e
 | [_,_],e=>by simp at e
 | [_,_,_],e=>by simp at e
 | [_,_,_,_],e=>by simp at e
 | [x0,q7n,q7q,q7r,q7s],_=>h x0 q7n q7q q7r q7s
 | _::_::_::_::_::_::_,e=>by simp at e
def spL(K:PySem.W.Frag):Sp:=λvs H Q _=>∃ (s:Addr) (ns:List Int),vs=[.ref s]/\SqL K H s (ns.map V.int)/\ns.length<=63/\∀ H',Q (.bl true) H'
theorem all_mk{l:PySem.W.OpenLaw}{w:World}{K:PySem.W.Frag}{h:Heap}{mg:Str->Option Value}{fa:Addr}{q7y q7z q80 q81 q82 q83 q84 q85 q86 q87 q88:Addr}{q89 q8a q8b q8c q8d q8e q8f q8g q8h q8i q8j q8k q8l q8m q8n q8o q8p q8q q8r q8s q8t q8u q8v q8w q8x q8y q8z q90 q91 q92 q93 q94 q95 q96 q97 q98 q99 q9a q9b q9c:Addr}{q9d qah qbl qcp qdt qex:Value}{qg1 qh5:Option Addr}{qi9:Array (Option Value)}{q9e qai qbm qcq qdu qey:Value}{qg2 qh6:Option Addr}{qia:Array (Option Value)}{q9f qaj qbn qcr qdv qez:Value}{qg3 qh7:Option Addr}{qib:Array (Option Value)}{q9g qak qbo qcs qdw qf0:Value}{qg4 qh8:Option Addr}{qic:Array (Option Value)}{q9h qal qbp qct qdx qf1:Value}{qg5 qh9:Option Addr}{qid:Array (Option Value)}{q9i qam qbq qcu qdy qf2:Value}{qg6 qha:Option Addr}{qie:Array (Option Value)}{q9j qan qbr qcv qdz qf3:Value}{qg7 qhb:Option Addr}{qif:Array (Option Value)}{q9k qao qbs qcw qe0 qf4:Value}{qg8 qhc:Option Addr}{qig:Array (Option Value)}{q9l qap qbt qcx qe1 qf5:Value}{qg9 qhd:Option Addr}{qih:Array (Option Value)}{q9m qaq qbu qcy qe2 qf6:Value}{qga qhe:Option Addr}{qii:Array (Option Value)}{q9n qar qbv qcz qe3 qf7:Value}{qgb qhf:Option Addr}{qij:Array (Option Value)}{q9o qas qbw qd0 qe4 qf8:Value}{qgc qhg:Option Addr}{qik:Array (Option Value)}{q9p qat qbx qd1 qe5 qf9:Value}{qgd qhh:Option Addr}{qil:Array (Option Value)}{q9q qau qby qd2 qe6 qfa:Value}{qge qhi:Option Addr}{qim:Array (Option Value)}{q9r qav qbz qd3 qe7 qfb:Value}{qgf qhj:Option Addr}{qin:Array (Option Value)}{q9s qaw qc0 qd4 qe8 qfc:Value}{qgg qhk:Option Addr}{qio:Array (Option Value)}{q9t qax qc1 qd5 qe9 qfd:Value}{qgh qhl:Option Addr}{qip:Array (Option Value)}{q9u qay qc2 qd6 qea qfe:Value}{qgi qhm:Option Addr}{qiq:Array (Option Value)}{q9v qaz qc3 qd7 qeb qff:Value}{qgj qhn:Option Addr}{qir:Array (Option Value)}{q9w qb0 qc4 qd8 qec qfg:Value}{qgk qho:Option Addr}{qis:Array (Option Value)}{q9x qb1 qc5 qd9 qed qfh:Value}{qgl qhp:Option Addr}{qit:Array (Option Value)}{q9y qb2 qc6 qda qee qfi:Value}{qgm qhq:Option Addr}{qiu:Array (Option Value)}{q9z qb3 qc7 qdb qef qfj:Value}{qgn qhr:Option Addr}{qiv:Array (Option Value)}{qa0 qb4 qc8 qdc qeg qfk:Value}{qgo qhs:Option Addr}{qiw:Array (Option Value)}{qa1 qb5 qc9 qdd qeh qfl:Value}{qgp qht:Option Addr}{qix:Array (Option Value)}{qa2 qb6 qca qde qei qfm:Value}{qgq qhu:Option Addr}{qiy:Array (Option Value)}{qa3 qb7 qcb qdf qej qfn:Value}{qgr qhv:Option Addr}{qiz:Array (Option Value)}{qa4 qb8 qcc qdg qek qfo:Value}{qgs qhw:Option Addr}{qj0:Array (Option Value)}{qa5 qb9 qcd qdh qel qfp:Value}{qgt qhx:Option Addr}{qj1:Array (Option Value)}{qa6 qba qce qdi qem qfq:Value}{qgu qhy:Option Addr}{qj2:Array (Option Value)}{qa7 qbb qcf qdj qen qfr:Value}{qgv qhz:Option Addr}{qj3:Array (Option Value)}{qa8 qbc qcg qdk qeo qfs:Value}{qgw qi0:Option Addr}{qj4:Array (Option Value)}{qa9 qbd qch qdl qep qft:Value}{qgx qi1:Option Addr}{qj5:Array (Option Value)}{qaa qbe qci qdm qeq qfu:Value}{qgy qi2:Option Addr}{qj6:Array (Option Value)}{qab qbf qcj qdn qer qfv:Value}{qgz qi3:Option Addr}{qj7:Array (Option Value)}{qac qbg qck qdo qes qfw:Value}{qh0 qi4:Option Addr}{qj8:Array (Option Value)}{qad qbh qcl qdp qet qfx:Value}{qh1 qi5:Option Addr}{qj9:Array (Option Value)}{qae qbi qcm qdq qeu qfy:Value}{qh2 qi6:Option Addr}{qja:Array (Option Value)}{qaf qbj qcn qdr qev qfz:Value}{qh3 qi7:Option Addr}{qjb:Array (Option Value)}{qag qbk qco qds qew qg0:Value}{qh4 qi8:Option Addr}{qjc:Array (Option Value)}{tk_MOST_LETTERS:Tok}(X:K.In h)(G:h.Ns mainGlobals mg)(hfa:mg "law"=some (.ref fa))
  (q0:PySem.W.nsIn K mainGlobals "HoldError"=some (some (.ref q7y)))
  (q1:PySem.W.nsIn K mainGlobals "NoBlock"=some (some (.ref q7z)))
  (q2:PySem.W.nsIn K mainGlobals "NoChange"=some (some (.ref q80)))
  (q3:PySem.W.nsIn K mainGlobals "NoRoom"=some (some (.ref q81)))
  (q4:PySem.W.nsIn K mainGlobals "NoName"=some (some (.ref q82)))
  (q5:PySem.W.nsIn K mainGlobals "Twice"=some (some (.ref q83)))
  (q6:PySem.W.nsIn K mainGlobals "Change"=some (some (.ref q84)))
  (q7:PySem.W.nsIn K mainGlobals "Hold"=some (some (.ref q85)))
  (q8:PySem.W.nsIn K mainGlobals "Store"=some (some (.ref q86)))
  (q9:PySem.W.nsIn K mainGlobals "Plank"=some (some (.ref q87)))
  (qa:PySem.W.nsIn K mainGlobals "Layout"=some (some (.ref q88)))
  (qb:PySem.W.plainGet K q84 Str.empty=true)
  (qc:PySem.W.hasDictIn K q84=true)
  (qd:PySem.W.plainOver K q84=true)
  (qe:PySem.W.findIn K (.ref q84) "__setattr__"=some (some (.builtin "object.__setattr__")))
  (qf:PySem.W.plainGet K q85 Str.empty=true)
  (qg:PySem.W.hasDictIn K q85=true)
  (qh:PySem.W.plainOver K q85=true)
  (qi:PySem.W.findIn K (.ref q85) "__setattr__"=some (some (.builtin "object.__setattr__")))
  (qj:PySem.W.plainGet K q88 Str.empty=true)
  (qk:PySem.W.hasDictIn K q88=true)
  (ql:PySem.W.plainOver K q88=true)
  (qm:PySem.W.findIn K (.ref q88) "__setattr__"=some (some (.builtin "object.__setattr__")))
  (qn:PySem.W.plainGet K q87 Str.empty=true)
  (qo:PySem.W.hasDictIn K q87=true)
  (qp:PySem.W.plainOver K q87=true)
  (qq:PySem.W.findIn K (.ref q87) "__setattr__"=some (some (.builtin "object.__setattr__")))
  (qr:PySem.W.plainGet K q86 Str.empty=true)
  (qs:PySem.W.hasDictIn K q86=true)
  (qt:PySem.W.plainOver K q86=true)
  (qu:PySem.W.findIn K (.ref q86) "__setattr__"=some (some (.builtin "object.__setattr__")))
  (qv:PySem.W.makesIn K q84=true)
  (qw:PySem.W.keepIn K (.ref q84)=true)
  (qx:PySem.W.makesIn K q85=true)
  (qy:PySem.W.keepIn K (.ref q85)=true)
  (qz:PySem.W.makesIn K q88=true)
  (q10:PySem.W.keepIn K (.ref q88)=true)
  (q11:PySem.W.makesIn K q87=true)
  (q12:PySem.W.keepIn K (.ref q87)=true)
  (q13:PySem.W.makesIn K q86=true)
  (q14:PySem.W.keepIn K (.ref q86)=true)
  (q15:PySem.W.excIn K q7y [.type "ValueError",.type "Exception",.type "BaseException",.type "object"] "ValueError.__new__"=true)
  (q16:PySem.W.nsIn K mainGlobals "MOST_LETTERS"=some (some (.int 8 tk_MOST_LETTERS)))
  (q17:PySem.W.excIn K q7z [.type "ValueError",.type "Exception",.type "BaseException",.type "object"] "ValueError.__new__"=true)
  (q18:PySem.W.excIn K q80 [.type "ValueError",.type "Exception",.type "BaseException",.type "object"] "ValueError.__new__"=true)
  (q19:PySem.W.excIn K q82 [.type "ValueError",.type "Exception",.type "BaseException",.type "object"] "ValueError.__new__"=true)
  (q1a:PySem.W.excIn K q81 [.type "ValueError",.type "Exception",.type "BaseException",.type "object"] "ValueError.__new__"=true)
  (q1b:PySem.W.excIn K q83 [.type "ValueError",.type "Exception",.type "BaseException",.type "object"] "ValueError.__new__"=true)
  (q1c:PySem.W.nsIn K mainGlobals "ValueError"=some none)
  (q1d:PySem.W.nsIn K mainGlobals "all"=some none)
  (q1e:PySem.W.nsIn K mainGlobals "bool"=some none)
  (q1f:PySem.W.nsIn K mainGlobals "enumerate"=some none)
  (q1g:PySem.W.nsIn K mainGlobals "isinstance"=some none)
  (q1h:PySem.W.nsIn K mainGlobals "len"=some none)
  (q1i:PySem.W.nsIn K mainGlobals "list"=some none)
  (q1j:PySem.W.nsIn K mainGlobals "min"=some none)
  (q1k:PySem.W.nsIn K mainGlobals "range"=some none)
  (q1l:PySem.W.nsIn K mainGlobals "set"=some none)
  (q1m:PySem.W.nsIn K mainGlobals "sorted"=some none)
  (q1n:PySem.W.nsIn K mainGlobals "tuple"=some none)
  (q1o:PySem.W.findIn K (.ref q84) "__init__"=some (some (.ref q89)))
  (q1p:PySem.W.isFn K (.ref q89)=true)
  (q1q:K.lookup q89=some ⟨q9d,qg1,.func (PySem.W.fnOf "__init__" "Change.__init__" (zaw zc0) (zas zc0) (zaa zc0) .none qah qbl qcp qh5 qdt qex),qi9⟩)
  (q1r:PySem.W.codeIn K qdt "Change.__init__"=true)
  (q1s:PySem.W.keepIn K (.ref q89)=true)
  (q1t:PySem.W.findIn K (.ref q85) "ask_for_changes"=some (some (.ref q8a)))
  (q1u:PySem.W.isFn K (.ref q8a)=true)
  (q1v:K.lookup q8a=some ⟨q9e,qg2,.func (PySem.W.fnOf "ask_for_changes" "Book.ask_for_changes" (zaw za3) (zas za3) (zaa za3) .none qai qbm qcq qh6 qdu qey),qia⟩)
  (q1w:PySem.W.codeIn K qdu "Book.ask_for_changes"=true)
  (q1x:PySem.W.keepIn K (.ref q8a)=true)
  (q1y:PySem.W.nsIn K mainGlobals "needs_with"=some (some (.ref q8b)))
  (q1z:K.lookup q8b=some ⟨q9f,qg3,.func (PySem.W.fnOf "needs_with" "needs_with" (zaw zdh) (zas zdh) (zaa zdh) .none qaj qbn qcr qh7 qdv qez),qib⟩)
  (q20:PySem.W.codeIn K qdv "needs_with"=true)
  (q21:PySem.W.keepIn K (.ref q8b)=true)
  (q22:PySem.W.nsIn K mainGlobals "is_name"=some (some (.ref q8c)))
  (q23:K.lookup q8c=some ⟨q9g,qg4,.func (PySem.W.fnOf "is_name" "is_name" (zaw ze3) (zas ze3) (zaa ze3) .none qak qbo qcs qh8 qdw qf0),qic⟩)
  (q24:PySem.W.codeIn K qdw "is_name"=true)
  (q25:PySem.W.keepIn K (.ref q8c)=true)
  (q26:PySem.W.findIn K (.ref q86) "hold"=some (some (.ref q8d)))
  (q27:PySem.W.isFn K (.ref q8d)=true)
  (q28:K.lookup q8d=some ⟨q9h,qg5,.func (PySem.W.fnOf "hold" "Store.hold" (zaw zdi) (zas zdi) (zaa zdi) .none qal qbp qct qh9 qdx qf1),qid⟩)
  (q29:PySem.W.codeIn K qdx "Store.hold"=true)
  (q2a:PySem.W.keepIn K (.ref q8d)=true)
  (q2b:PySem.W.findIn K (.ref q87) "__init__"=some (some (.ref q8e)))
  (q2c:PySem.W.isFn K (.ref q8e)=true)
  (q2d:K.lookup q8e=some ⟨q9i,qg6,.func (PySem.W.fnOf "__init__" "Plank.__init__" (zaw zcw) (zas zcw) (zaa zcw) .none qam qbq qcu qha qdy qf2),qie⟩)
  (q2e:PySem.W.codeIn K qdy "Plank.__init__"=true)
  (q2f:PySem.W.keepIn K (.ref q8e)=true)
  (q2g:PySem.W.findIn K (.ref q87) "blocks"=some (some (.ref q8f)))
  (q2h:PySem.W.isFn K (.ref q8f)=true)
  (q2i:K.lookup q8f=some ⟨q9j,qg7,.func (PySem.W.fnOf "blocks" "Plank.blocks" (zaw zcp) (zas zcp) (zaa zcp) .none qan qbr qcv qhb qdz qf3),qif⟩)
  (q2j:PySem.W.codeIn K qdz "Plank.blocks"=true)
  (q2k:PySem.W.keepIn K (.ref q8f)=true)
  (q2l:PySem.W.findIn K (.ref q87) "cells"=some (some (.ref q8g)))
  (q2m:PySem.W.isFn K (.ref q8g)=true)
  (q2n:K.lookup q8g=some ⟨q9k,qg8,.func (PySem.W.fnOf "cells" "Plank.cells" (zaw zc1) (zas zc1) (zaa zc1) .none qao qbs qcw qhc qe0 qf4),qig⟩)
  (q2o:PySem.W.codeIn K qe0 "Plank.cells"=true)
  (q2p:PySem.W.keepIn K (.ref q8g)=true)
  (q2q:PySem.W.findIn K (.ref q87) "ask_for_block"=some (some (.ref q8h)))
  (q2r:PySem.W.isFn K (.ref q8h)=true)
  (q2s:K.lookup q8h=some ⟨q9l,qg9,.func (PySem.W.fnOf "ask_for_block" "Plank.ask_for_block" (zaw za5) (zas za5) (zaa za5) .none qap qbt qcx qhd qe1 qf5),qih⟩)
  (q2t:PySem.W.codeIn K qe1 "Plank.ask_for_block"=true)
  (q2u:PySem.W.keepIn K (.ref q8h)=true)
  (q2v:PySem.W.findIn K (.ref q88) "__init__"=some (some (.ref q8i)))
  (q2w:PySem.W.isFn K (.ref q8i)=true)
  (q2x:K.lookup q8i=some ⟨q9m,qga,.func (PySem.W.fnOf "__init__" "Layout.__init__" (zaw zc2) (zas zc2) (zaa zc2) .none qaq qbu qcy qhe qe2 qf6),qii⟩)
  (q2y:PySem.W.codeIn K qe2 "Layout.__init__"=true)
  (q2z:PySem.W.keepIn K (.ref q8i)=true)
  (q30:PySem.W.findIn K (.ref q88) "counts"=some (some (.ref q8j)))
  (q31:PySem.W.isFn K (.ref q8j)=true)
  (q32:K.lookup q8j=some ⟨q9n,qgb,.func (PySem.W.fnOf "counts" "Layout.counts" (zaw zca) (zas zca) (zaa zca) .none qar qbv qcz qhf qe3 qf7),qij⟩)
  (q33:PySem.W.codeIn K qe3 "Layout.counts"=true)
  (q34:PySem.W.keepIn K (.ref q8j)=true)
  (q35:PySem.W.findIn K (.ref q88) "blocks_ahead_of_marks"=some (some (.ref q8k)))
  (q36:PySem.W.isFn K (.ref q8k)=true)
  (q37:K.lookup q8k=some ⟨q9o,qgc,.func (PySem.W.fnOf "blocks_ahead_of_marks" "Layout.blocks_ahead_of_marks" (zaw zao) (zas zao) (zaa zao) .none qas qbw qd0 qhg qe4 qf8),qik⟩)
  (q38:PySem.W.codeIn K qe4 "Layout.blocks_ahead_of_marks"=true)
  (q39:PySem.W.keepIn K (.ref q8k)=true)
  (q3a:PySem.W.findIn K (.ref q88) "place_from"=some (some (.ref q8l)))
  (q3b:PySem.W.isFn K (.ref q8l)=true)
  (q3c:K.lookup q8l=some ⟨q9p,qgd,.func (PySem.W.fnOf "place_from" "Layout.place_from" (zaw zbg) (zas zbg) (zaa zbg) .none qat qbx qd1 qhh qe5 qf9),qil⟩)
  (q3d:PySem.W.codeIn K qe5 "Layout.place_from"=true)
  (q3e:PySem.W.keepIn K (.ref q8l)=true)
  (q3f:PySem.W.nsIn K mainGlobals "_law_cell_at"=some (some (.ref q8m)))
  (q3g:K.lookup q8m=some ⟨q9q,qge,.func (PySem.W.fnOf "_law_cell_at" "_law_cell_at" (zaw zc3) (zas zc3) (zaa zc3) .none qau qby qd2 qhi qe6 qfa),qim⟩)
  (q3h:PySem.W.codeIn K qe6 "_law_cell_at"=true)
  (q3i:PySem.W.keepIn K (.ref q8m)=true)
  (q3j:PySem.W.nsIn K mainGlobals "_law_name"=some (some (.ref q8n)))
  (q3k:K.lookup q8n=some ⟨q9r,qgf,.func (PySem.W.fnOf "_law_name" "_law_name" (zaw zej) (zas zej) (zaa zej) .none qav qbz qd3 qhj qe7 qfb),qin⟩)
  (q3l:PySem.W.codeIn K qe7 "_law_name"=true)
  (q3m:PySem.W.keepIn K (.ref q8n)=true)
  (q3n:PySem.W.findIn K (.ref q85) "__init__"=some (some (.ref q8o)))
  (q3o:PySem.W.isFn K (.ref q8o)=true)
  (q3p:K.lookup q8o=some ⟨q9s,qgg,.func (PySem.W.fnOf "__init__" "Book.__init__" (zaw zdj) (zas zdj) (zaa zdj) .none qaw qc0 qd4 qhk qe8 qfc),qio⟩)
  (q3q:PySem.W.codeIn K qe8 "Book.__init__"=true)
  (q3r:PySem.W.keepIn K (.ref q8o)=true)
  (q3s:PySem.W.findIn K (.ref q85) "needed"=some (some (.ref q8p)))
  (q3t:PySem.W.isFn K (.ref q8p)=true)
  (q3u:K.lookup q8p=some ⟨q9t,qgh,.func (PySem.W.fnOf "needed" "Book.needed" (zaw zc4) (zas zc4) (zaa zc4) .none qax qc1 qd5 qhl qe9 qfd),qip⟩)
  (q3v:PySem.W.codeIn K qe9 "Book.needed"=true)
  (q3w:PySem.W.keepIn K (.ref q8p)=true)
  (q3x:PySem.W.findIn K (.ref q85) "ask_for_place"=some (some (.ref q8q)))
  (q3y:PySem.W.isFn K (.ref q8q)=true)
  (q3z:K.lookup q8q=some ⟨q9u,qgi,.func (PySem.W.fnOf "ask_for_place" "Book.ask_for_place" (zaw za8) (zas za8) (zaa za8) .none qay qc2 qd6 qhm qea qfe),qiq⟩)
  (q40:PySem.W.codeIn K qea "Book.ask_for_place"=true)
  (q41:PySem.W.keepIn K (.ref q8q)=true)
  (q42:PySem.W.findIn K (.ref q87) "read"=some (some (.ref q8r)))
  (q43:PySem.W.isFn K (.ref q8r)=true)
  (q44:K.lookup q8r=some ⟨q9v,qgj,.func (PySem.W.fnOf "read" "Plank.read" (zaw zdk) (zas zdk) (zaa zdk) .none qaz qc3 qd7 qhn qeb qff),qir⟩)
  (q45:PySem.W.codeIn K qeb "Plank.read"=true)
  (q46:PySem.W.keepIn K (.ref q8r)=true)
  (q47:PySem.W.findIn K (.ref q88) "name_at"=some (some (.ref q8s)))
  (q48:PySem.W.isFn K (.ref q8s)=true)
  (q49:K.lookup q8s=some ⟨q9w,qgk,.func (PySem.W.fnOf "name_at" "Layout.name_at" (zaw zb0) (zas zb0) (zaa zb0) .none qb0 qc4 qd8 qho qec qfg),qis⟩)
  (q4a:PySem.W.codeIn K qec "Layout.name_at"=true)
  (q4b:PySem.W.keepIn K (.ref q8s)=true)
  (q4c:PySem.W.findIn K (.ref q88) "record_at"=some (some (.ref q8t)))
  (q4d:PySem.W.isFn K (.ref q8t)=true)
  (q4e:K.lookup q8t=some ⟨q9x,qgl,.func (PySem.W.fnOf "record_at" "Layout.record_at" (zaw zbm) (zas zbm) (zaa zbm) .none qb1 qc5 qd9 qhp qed qfh),qit⟩)
  (q4f:PySem.W.codeIn K qed "Layout.record_at"=true)
  (q4g:PySem.W.keepIn K (.ref q8t)=true)
  (q4h:PySem.W.findIn K (.ref q88) "record_mark"=some (some (.ref q8u)))
  (q4i:PySem.W.isFn K (.ref q8u)=true)
  (q4j:K.lookup q8u=some ⟨q9y,qgm,.func (PySem.W.fnOf "record_mark" "Layout.record_mark" (zaw za9) (zas za9) (zaa za9) .none qb2 qc6 qda qhq qee qfi),qiu⟩)
  (q4k:PySem.W.codeIn K qee "Layout.record_mark"=true)
  (q4l:PySem.W.keepIn K (.ref q8u)=true)
  (q4m:PySem.W.findIn K (.ref q88) "blocks"=some (some (.ref q8v)))
  (q4n:PySem.W.isFn K (.ref q8v)=true)
  (q4o:K.lookup q8v=some ⟨q9z,qgn,.func (PySem.W.fnOf "blocks" "Layout.blocks" (zaw zcb) (zas zcb) (zaa zcb) .none qb3 qc7 qdb qhr qef qfj),qiv⟩)
  (q4p:PySem.W.codeIn K qef "Layout.blocks"=true)
  (q4q:PySem.W.keepIn K (.ref q8v)=true)
  (q4r:PySem.W.findIn K (.ref q85) "newest"=some (some (.ref q8w)))
  (q4s:PySem.W.isFn K (.ref q8w)=true)
  (q4t:K.lookup q8w=some ⟨qa0,qgo,.func (PySem.W.fnOf "newest" "Book.newest" (zaw zc5) (zas zc5) (zaa zc5) .none qb4 qc8 qdc qhs qeg qfk),qiw⟩)
  (q4u:PySem.W.codeIn K qeg "Book.newest"=true)
  (q4v:PySem.W.keepIn K (.ref q8w)=true)
  (q4w:PySem.W.findIn K (.ref q88) "plank"=some (some (.ref q8x)))
  (q4x:PySem.W.isFn K (.ref q8x)=true)
  (q4y:K.lookup q8x=some ⟨qa1,qgp,.func (PySem.W.fnOf "plank" "Layout.plank" (zaw zcq) (zas zcq) (zaa zcq) .none qb5 qc9 qdd qht qeh qfl),qix⟩)
  (q4z:PySem.W.codeIn K qeh "Layout.plank"=true)
  (q50:PySem.W.keepIn K (.ref q8x)=true)
  (q51:PySem.W.findIn K (.ref q85) "change"=some (some (.ref q8y)))
  (q52:PySem.W.isFn K (.ref q8y)=true)
  (q53:K.lookup q8y=some ⟨qa2,qgq,.func (PySem.W.fnOf "change" "Book.change" (zaw zc6) (zas zc6) (zaa zc6) .none qb6 qca qde qhu qei qfm),qiy⟩)
  (q54:PySem.W.codeIn K qei "Book.change"=true)
  (q55:PySem.W.keepIn K (.ref q8y)=true)
  (q56:PySem.W.findIn K (.ref q85) "in_hand"=some (some (.ref q8z)))
  (q57:PySem.W.isFn K (.ref q8z)=true)
  (q58:K.lookup q8z=some ⟨qa3,qgr,.func (PySem.W.fnOf "in_hand" "Book.in_hand" (zaw zcr) (zas zcr) (zaa zcr) .none qb7 qcb qdf qhv qej qfn),qiz⟩)
  (q59:PySem.W.codeIn K qej "Book.in_hand"=true)
  (q5a:PySem.W.keepIn K (.ref q8z)=true)
  (q5b:PySem.W.findIn K (.ref q86) "__init__"=some (some (.ref q90)))
  (q5c:PySem.W.isFn K (.ref q90)=true)
  (q5d:K.lookup q90=some ⟨qa4,qgs,.func (PySem.W.fnOf "__init__" "Store.__init__" (zaw zdl) (zas zdl) (zaa zdl) .none qb8 qcc qdg qhw qek qfo),qj0⟩)
  (q5e:PySem.W.codeIn K qek "Store.__init__"=true)
  (q5f:PySem.W.keepIn K (.ref q90)=true)
  (q5g:PySem.W.nsIn K mainGlobals "lowest_with"=some (some (.ref q91)))
  (q5h:K.lookup q91=some ⟨qa5,qgt,.func (PySem.W.fnOf "lowest_with" "lowest_with" (zaw zc7) (zas zc7) (zaa zc7) .none qb9 qcd qdh qhx qel qfp),qj1⟩)
  (q5i:PySem.W.codeIn K qel "lowest_with"=true)
  (q5j:PySem.W.keepIn K (.ref q91)=true)
  (q5k:PySem.W.findIn K (.ref q86) "name_cells"=some (some (.ref q92)))
  (q5l:PySem.W.isFn K (.ref q92)=true)
  (q5m:K.lookup q92=some ⟨qa6,qgu,.func (PySem.W.fnOf "name_cells" "Store.name_cells" (zaw zbb) (zas zbb) (zaa zbb) .none qba qce qdi qhy qem qfq),qj2⟩)
  (q5n:PySem.W.codeIn K qem "Store.name_cells"=true)
  (q5o:PySem.W.keepIn K (.ref q92)=true)
  (q5p:PySem.W.findIn K (.ref q86) "fill_cell"=some (some (.ref q93)))
  (q5q:PySem.W.isFn K (.ref q93)=true)
  (q5r:K.lookup q93=some ⟨qa7,qgv,.func (PySem.W.fnOf "fill_cell" "Store.fill_cell" (zaw zbp) (zas zbp) (zaa zbp) .none qbb qcf qdj qhz qen qfr),qj3⟩)
  (q5s:PySem.W.codeIn K qen "Store.fill_cell"=true)
  (q5t:PySem.W.keepIn K (.ref q93)=true)
  (q5u:PySem.W.nsIn K mainGlobals "free_name"=some (some (.ref q94)))
  (q5v:K.lookup q94=some ⟨qa8,qgw,.func (PySem.W.fnOf "free_name" "free_name" (zaw zdm) (zas zdm) (zaa zdm) .none qbc qcg qdk qi0 qeo qfs),qj4⟩)
  (q5w:PySem.W.codeIn K qeo "free_name"=true)
  (q5x:PySem.W.keepIn K (.ref q94)=true)
  (q5y:PySem.W.nsIn K mainGlobals "free_record"=some (some (.ref q95)))
  (q5z:K.lookup q95=some ⟨qa9,qgx,.func (PySem.W.fnOf "free_record" "free_record" (zaw zcn) (zas zcn) (zaa zcn) .none qbd qch qdl qi1 qep qft),qj5⟩)
  (q60:PySem.W.codeIn K qep "free_record"=true)
  (q61:PySem.W.keepIn K (.ref q95)=true)
  (q62:PySem.W.findIn K (.ref q86) "names"=some (some (.ref q96)))
  (q63:PySem.W.isFn K (.ref q96)=true)
  (q64:K.lookup q96=some ⟨qaa,qgy,.func (PySem.W.fnOf "names" "Store.names" (zaw zco) (zas zco) (zaa zco) .none qbe qci qdm qi2 qeq qfu),qj6⟩)
  (q65:PySem.W.codeIn K qeq "Store.names"=true)
  (q66:PySem.W.keepIn K (.ref q96)=true)
  (q67:PySem.W.findIn K (.ref q86) "cell_of"=some (some (.ref q97)))
  (q68:PySem.W.isFn K (.ref q97)=true)
  (q69:K.lookup q97=some ⟨qab,qgz,.func (PySem.W.fnOf "cell_of" "Store.cell_of" (zaw zcc) (zas zcc) (zaa zcc) .none qbf qcj qdn qi3 qer qfv),qj7⟩)
  (q6a:PySem.W.codeIn K qer "Store.cell_of"=true)
  (q6b:PySem.W.keepIn K (.ref q97)=true)
  (q6c:PySem.W.findIn K (.ref q86) "ask_for_new_name"=some (some (.ref q98)))
  (q6d:PySem.W.isFn K (.ref q98)=true)
  (q6e:K.lookup q98=some ⟨qac,qh0,.func (PySem.W.fnOf "ask_for_new_name" "Store.ask_for_new_name" (zaw zau) (zas zau) (zaa zau) .none qbg qck qdo qi4 qes qfw),qj8⟩)
  (q6f:PySem.W.codeIn K qes "Store.ask_for_new_name"=true)
  (q6g:PySem.W.keepIn K (.ref q98)=true)
  (q6h:PySem.W.findIn K (.ref q86) "make"=some (some (.ref q99)))
  (q6i:PySem.W.isFn K (.ref q99)=true)
  (q6j:K.lookup q99=some ⟨qad,qh1,.func (PySem.W.fnOf "make" "Store.make" (zaw zdn) (zas zdn) (zaa zdn) .none qbh qcl qdp qi5 qet qfx),qj9⟩)
  (q6k:PySem.W.codeIn K qet "Store.make"=true)
  (q6l:PySem.W.keepIn K (.ref q99)=true)
  (q6m:PySem.W.nsIn K mainGlobals "_law_made"=some (some (.ref q9a)))
  (q6n:K.lookup q9a=some ⟨qae,qh2,.func (PySem.W.fnOf "_law_made" "_law_made" (zaw zek) (zas zek) (zaa zek) .none qbi qcm qdq qi6 qeu qfy),qja⟩)
  (q6o:PySem.W.codeIn K qeu "_law_made"=true)
  (q6p:PySem.W.keepIn K (.ref q9a)=true)
  (q6q:PySem.W.nsIn K mainGlobals "_law_refused"=some (some (.ref q9b)))
  (q6r:K.lookup q9b=some ⟨qaf,qh3,.func (PySem.W.fnOf "_law_refused" "_law_refused" (zaw zc8) (zas zc8) (zaa zc8) .none qbj qcn qdr qi7 qev qfz),qjb⟩)
  (q6s:PySem.W.codeIn K qev "_law_refused"=true)
  (q6t:PySem.W.keepIn K (.ref q9b)=true)
  (q6u:PySem.W.nsIn K mainGlobals "law"=some (some (.ref q9c)))
  (q6v:K.lookup q9c=some ⟨qag,qh4,.func (PySem.W.fnOf "law" "law" (zaw zoj) (zas zoj) (zaa zoj) .none qbk qco qds qi8 qew qg0),qjc⟩)
  (q6w:PySem.W.codeIn K qew "law"=true)
  (q6x:PySem.W.keepIn K (.ref q9c)=true)
  (q6y:PySem.W.findIn K (.ref q85) "newest"=some (some (.ref q8w)))
  (q6z:PySem.W.findIn K (.ref q85) "ask_for_changes"=some (some (.ref q8a)))
  (q70:PySem.W.findIn K (.ref q85) "ask_for_place"=some (some (.ref q8q)))
  (q71:PySem.W.findIn K (.ref q85) "in_hand"=some (some (.ref q8z)))
  (q72:PySem.W.findIn K (.ref q85) "__init__"=some (some (.ref q8o)))
  (q73:PySem.W.findIn K (.ref q85) "change"=some (some (.ref q8y)))
  (q74:PySem.W.findIn K (.ref q85) "needed"=some (some (.ref q8p)))
  (q75:PySem.W.findIn K (.ref q87) "contents"=some none)
  (q76:PySem.W.findIn K (.ref q87) "width"=some none)
  (q77:PySem.W.findIn K (.ref q87) "written"=some none)
  (q78:PySem.W.findIn K (.ref q85) "ground"=some none)
  (q79:PySem.W.findIn K (.ref q85) "made"=some none)
  (q7a:PySem.W.findIn K (.ref q85) "made_in"=some none)
  (q7b:PySem.W.findIn K (.ref q85) "latest"=some none)
  (q7c:PySem.W.findIn K (.ref q85) "outs"=some none)
  (q7d:PySem.W.findIn K (.ref q84) "place"=some none)
  (q7e:PySem.W.findIn K (.ref q84) "value"=some none)
  (q7f:PySem.W.findIn K (.ref q84) "needs"=some none)
  (q7g:PySem.W.findIn K (.ref q88) "name_blocks"=some none)
  (q7h:PySem.W.findIn K (.ref q88) "record_blocks"=some none)
  (q7i:PySem.W.findIn K (.ref q88) "piece_blocks"=some none)
  (q7j:PySem.W.findIn K (.ref q88) "width"=some none)
  (q7k:PySem.W.findIn K (.ref q86) "plan"=some none)
  (q7l:PySem.W.findIn K (.ref q86) "book"=some none)
  (q7m:PySem.W.findIn K (.ref q86) "taken_out"=some none)
  (q7n:PySem.W.findIn K (.ref q81) "__getattribute__"=some (some (.builtin "BaseException.__getattribute__")))
  (q7o:PySem.W.findIn K (.ref q81) "__getattr__"=some none)
  (q7p:PySem.W.mroIn K q81 (.type "BaseException")=some true)
  (q7q:PySem.W.isClsIn K q81=true)
  (q7r:PySem.W.findIn K (.ref q81) "__class__"=some (some (.builtin "object.__class__")))
  (q7s:PySem.W.specialIn K (.builtin "object.__class__") "__get__"=some (some (.builtin "getset_descriptor.__get__")))
  (q7t:PySem.W.takesIn K (.builtin "object.__class__")=some true)
  (q7u:PySem.W.mroIn K q81 (.type "object")=some true)
  (q7v:PySem.W.exmOne K (.ref q81) (.ref q81)=some true)
  (q7w:PySem.W.kitOne K (.ref q81) (.ref q7y)=some true)
  (q7x:PySem.W.kitOne K (.ref q81) (.type "ValueError")=some true) :
  ∃ fd:FuncData,(∀ (s:Shared) (v:Value),BindsTo s fd ⟨[v],[]⟩ [("script",v)])/\∀ base:Heap,K.In base->base.Ns mainGlobals mg->FnOk l.prog w K mg base (cxE l.prog w) 10 fa fd ["script"] (spL K):=by
 obtain⟨a,rfl,rfl,rfl,rfl,rfl,rfl,rfl,rfl,rfl,rfl,rfl⟩:=zac8 q7y q7z q80 q81 q82 q83 q84 q85 q86 q87 q88
 have e:=hfa.symm.trans (PySem.W.mg_of X G q6u)
 cases e
 have T:Txt K mg a:=⟨⟨qb,qc,qd,qe⟩,⟨qf,qg,qh,qi⟩,⟨qj,qk,ql,qm⟩,⟨qn,qo,qp,qq⟩,⟨qr,qs,qt,qu⟩,PySem.W.mg_of X G q0,⟨_,PySem.W.mg_of X G q0,rfl⟩,⟨q15⟩,⟨_,PySem.W.mg_of X G q16,_,rfl⟩,PySem.W.mg_of X G q1,⟨_,PySem.W.mg_of X G q1,rfl⟩,⟨q17⟩,PySem.W.mg_of X G q2,⟨_,PySem.W.mg_of X G q2,rfl⟩,⟨q18⟩,PySem.W.mg_of X G q4,⟨_,PySem.W.mg_of X G q4,rfl⟩,⟨q19⟩,PySem.W.mg_of X G q3,⟨_,PySem.W.mg_of X G q3,rfl⟩,⟨q1a⟩,PySem.W.mg_of X G q5,⟨_,PySem.W.mg_of X G q5,rfl⟩,⟨q1b⟩,PySem.W.mg_none_of X G q1c,PySem.W.mg_none_of X G q1d,PySem.W.mg_none_of X G q1e,PySem.W.mg_none_of X G q1f,PySem.W.mg_none_of X G q1g,PySem.W.mg_none_of X G q1h,PySem.W.mg_none_of X G q1i,PySem.W.mg_none_of X G q1j,PySem.W.mg_none_of X G q1k,PySem.W.mg_none_of X G q1l,PySem.W.mg_none_of X G q1m,PySem.W.mg_none_of X G q1n⟩
 have TPk:zey K a:=⟨T.c_Plank,q75,q76,q77⟩
 have TBk:zab3 K (a "Hold") (a "Change"):=⟨T.c_Hold,q78,q79,q7a,q7b,q7c,T.c_Change,q7d,q7e,q7f⟩
 have TLy:TLay K a:=⟨T.c_Layout,q7g,q7h,q7i,q7j⟩
 have TSt:zvq K a:=⟨T.c_Store,q7k,q7l,q7m⟩
 have TRm:TR K a:=⟨q7v,⟨q7n,q7o,q7p,q7q,q7r,q7s,q7t,q7u⟩,q7w,q7x⟩
 have qjd:=zbi (st:=zc0) q1q q1r q1s
 have qkh:=qjd.binds (ps:=["self","place","value","needs"]) λ_ _ _ _ _ _=>us4 λ_ _ _ _=>rfl
 have qje:=zbi (st:=za3) q1v q1w q1x
 have qki:=qje.binds (ps:=["self","numbers"]) λ_ _ _ _ _ _=>us2 λ_ _=>rfl
 have qjf:=zbi (st:=zdh) q1z q20 q21
 have qkj:=qjf.binds (ps:=["needs","ahead"]) λ_ _ _ _ _ _=>us2 λ_ _=>rfl
 have qjg:=zbi (st:=ze3) q23 q24 q25
 have qkk:=qjg.binds (ps:=["thing"]) λ_ _ _ _ _ _=>us1 λ_=>rfl
 have qjh:=zbi (st:=zdi) q28 q29 q2a
 have qkl:=qjh.binds (ps:=["self"]) λ_ _ _ _ _ _=>us1 λ_=>rfl
 have qji:=zbi (st:=zcw) q2d q2e q2f
 have qkm:=qji.binds (ps:=["self","blocks","cells"]) λ_ _ _ _ _ _=>us3 λ_ _ _=>rfl
 have qjj:=zbi (st:=zcp) q2i q2j q2k
 have qkn:=qjj.binds (ps:=["self"]) λ_ _ _ _ _ _=>us1 λ_=>rfl
 have qjk:=zbi (st:=zc1) q2n q2o q2p
 have qko:=qjk.binds (ps:=["self"]) λ_ _ _ _ _ _=>us1 λ_=>rfl
 have qjl:=zbi (st:=za5) q2s q2t q2u
 have qkp:=qjl.binds (ps:=["self","block"]) λ_ _ _ _ _ _=>us2 λ_ _=>rfl
 have qjm:=zbi (st:=zc2) q2x q2y q2z
 have qkq:=qjm.binds (ps:=["self","names","records","pieces","cells"]) λ_ _ _ _ _ _=>us5 λ_ _ _ _ _=>rfl
 have qjn:=zbi (st:=zca) q32 q33 q34
 have qkr:=qjn.binds (ps:=["self"]) λ_ _ _ _ _ _=>us1 λ_=>rfl
 have qjo:=zbi (st:=zao) q37 q38 q39
 have qks:=qjo.binds (ps:=["self"]) λ_ _ _ _ _ _=>us1 λ_=>rfl
 have qjp:=zbi (st:=zbg) q3c q3d q3e
 have qkt:=qjp.binds (ps:=["self","block","k"]) λ_ _ _ _ _ _=>us3 λ_ _ _=>rfl
 have qjq:=zbi (st:=zc3) q3g q3h q3i
 have qku:=qjq.binds (ps:=["script","k"]) λ_ _ _ _ _ _=>us2 λ_ _=>rfl
 have qjr:=zbi (st:=zej) q3k q3l q3m
 have qkv:=qjr.binds (ps:=["k","cell"]) λ_ _ _ _ _ _=>us2 λ_ _=>rfl
 have qjs:=zbi (st:=zdj) q3p q3q q3r
 have qkw:=qjs.binds (ps:=["self","plank"]) λ_ _ _ _ _ _=>us2 λ_ _=>rfl
 have qjt:=zbi (st:=zc4) q3u q3v q3w
 have qkx:=qjt.binds (ps:=["self","number"]) λ_ _ _ _ _ _=>us2 λ_ _=>rfl
 have qju:=zbi (st:=za8) q3z q40 q41
 have qky:=qju.binds (ps:=["self","place"]) λ_ _ _ _ _ _=>us2 λ_ _=>rfl
 have qjv:=zbi (st:=zdk) q44 q45 q46
 have qkz:=qjv.binds (ps:=["self","block"]) λ_ _ _ _ _ _=>us2 λ_ _=>rfl
 have qjw:=zbi (st:=zb0) q49 q4a q4b
 have ql0:=qjw.binds (ps:=["self","k"]) λ_ _ _ _ _ _=>us2 λ_ _=>rfl
 have qjx:=zbi (st:=zbm) q4e q4f q4g
 have ql1:=qjx.binds (ps:=["self","k"]) λ_ _ _ _ _ _=>us2 λ_ _=>rfl
 have qjy:=zbi (st:=za9) q4j q4k q4l
 have ql2:=qjy.binds (ps:=["self","k"]) λ_ _ _ _ _ _=>us2 λ_ _=>rfl
 have qjz:=zbi (st:=zcb) q4o q4p q4q
 have ql3:=qjz.binds (ps:=["self"]) λ_ _ _ _ _ _=>us1 λ_=>rfl
 have qk0:=zbi (st:=zc5) q4t q4u q4v
 have ql4:=qk0.binds (ps:=["self","place"]) λ_ _ _ _ _ _=>us2 λ_ _=>rfl
 have qk1:=zbi (st:=zcq) q4y q4z q50
 have ql5:=qk1.binds (ps:=["self"]) λ_ _ _ _ _ _=>us1 λ_=>rfl
 have qk2:=zbi (st:=zc6) q53 q54 q55
 have ql6:=qk2.binds (ps:=["self","place","value","needs"]) λ_ _ _ _ _ _=>us4 λ_ _ _ _=>rfl
 have qk3:=zbi (st:=zcr) q58 q59 q5a
 have ql7:=qk3.binds (ps:=["self","place"]) λ_ _ _ _ _ _=>us2 λ_ _=>rfl
 have qk4:=zbi (st:=zdl) q5d q5e q5f
 have ql8:=qk4.binds (ps:=["self","layout","plank"]) λ_ _ _ _ _ _=>us3 λ_ _ _=>rfl
 have qk5:=zbi (st:=zc7) q5h q5i q5j
 have ql9:=qk5.binds (ps:=["hold","places","values"]) λ_ _ _ _ _ _=>us3 λ_ _ _=>rfl
 have qk6:=zbi (st:=zbb) q5m q5n q5o
 have qla:=qk6.binds (ps:=["self"]) λ_ _ _ _ _ _=>us1 λ_=>rfl
 have qk7:=zbi (st:=zbp) q5r q5s q5t
 have qlb:=qk7.binds (ps:=["self","cell","name","record","need"]) λ_ _ _ _ _ _=>us5 λ_ _ _ _ _=>rfl
 have qk8:=zbi (st:=zdm) q5v q5w q5x
 have qlc:=qk8.binds (ps:=["layout","hold"]) λ_ _ _ _ _ _=>us2 λ_ _=>rfl
 have qk9:=zbi (st:=zcn) q5z q60 q61
 have qld:=qk9.binds (ps:=["layout","hold"]) λ_ _ _ _ _ _=>us2 λ_ _=>rfl
 have qka:=zbi (st:=zco) q64 q65 q66
 have qle:=qka.binds (ps:=["self"]) λ_ _ _ _ _ _=>us1 λ_=>rfl
 have qkb:=zbi (st:=zcc) q69 q6a q6b
 have qlf:=qkb.binds (ps:=["self","name"]) λ_ _ _ _ _ _=>us2 λ_ _=>rfl
 have qkc:=zbi (st:=zau) q6e q6f q6g
 have qlg:=qkc.binds (ps:=["self","new","given"]) λ_ _ _ _ _ _=>us3 λ_ _ _=>rfl
 have qkd:=zbi (st:=zdn) q6j q6k q6l
 have qlh:=qkd.binds (ps:=["self","name"]) λ_ _ _ _ _ _=>us2 λ_ _=>rfl
 have qke:=zbi (st:=zek) q6n q6o q6p
 have qli:=qke.binds (ps:=["layout","store","name","k"]) λ_ _ _ _ _ _=>us4 λ_ _ _ _=>rfl
 have qkf:=zbi (st:=zc8) q6r q6s q6t
 have qlj:=qkf.binds (ps:=["store","name"]) λ_ _ _ _ _ _=>us2 λ_ _=>rfl
 have qkg:=zbi (st:=zoj) q6v q6w q6x
 have qlk:=qkg.binds (ps:=["script"]) λ_ _ _ _ _ _=>us1 λ_=>rfl
 refine⟨PySem.W.fnOf "law" "law" (zaw zoj) (zas zoj) (zaa zoj) .none qbk qco qds qi8 qew qg0,λs v=>.of_eq rfl,λbase _ _=> ?_⟩
 have qll:FnOk l.prog w K mg base (cxE l.prog w) 1 q89 _ ["self","place","value","needs"] (zb6 K a):=zn2 T qjd  (λ_ _ _ _ h=>zlx h) (λ_ _ _ _ h=>zm2 h)
 have qlm:FnOk l.prog w K mg base (cxE l.prog w) 1 q8a _ ["self","numbers"] (zan K a):=zgr T qje  (λ_ _ _ _ h=>zfy h) (λ_ _ _ _ h=>zf8 h)
 have qln:FnOk l.prog w K mg base (cxE l.prog w) 1 q8b _ ["needs","ahead"] (zci K a):=zpu T qjf  (λ_ _ _ _ h=>zm3 h) (λ_ _ _ _ h=>znw h)
 have qlo:FnOk l.prog w K mg base (cxE l.prog w) 1 q8c _ ["thing"] (zd3 K a):=zt4 T qjg  (λ_ _ _ _ h=>zrf h) (λ_ _ _ _ h=>zsl h)
 have qlp:FnOk l.prog w K mg base (cxE l.prog w) 1 q8d _ ["self"] (zck K a):=zpw T qjh  (λ_ _ _ _ h=>znb h) (λ_ _ _ _ h=>zny h)
 have qlq:FnOk l.prog w K mg base (cxE l.prog w) 1 q8e _ ["self","blocks","cells"] (zcf K a):=zpy T qji  (λ_ _ _ _ h=>zmz h) (λ_ _ _ _ h=>znt h)
 have qlr:FnOk l.prog w K mg base (cxE l.prog w) 1 q8f _ ["self"] (zbc K a):=znj T qjj  (λ_ _ _ _ h=>zkv h) (λ_ _ _ _ h=>zlw h)
 have qls:FnOk l.prog w K mg base (cxE l.prog w) 1 q8g _ ["self"] (zb4 K a):=zn4 T qjk  (λ_ _ _ _ h=>zlv h) (λ_ _ _ _ h=>zm1 h)
 have qlt:FnOk l.prog w K mg base (cxE l.prog w) 1 q8h _ ["self","block"] (zat K a):=zgz T qjl  (λ_ _ _ _ h=>zf7 h) (λ_ _ _ _ h=>zgo h)
 have qlu:FnOk l.prog w K mg base (cxE l.prog w) 1 q8i _ ["self","names","records","pieces","cells"] (zb5 K a):=zn6 T qjm  (λ_ _ _ _ h=>zl2 h) (λ_ _ _ _ h=>zm7 h)
 have qlv:FnOk l.prog w K mg base (cxE l.prog w) 1 q8j _ ["self"] (za1 K a):=zl9 T qjn  (λ_ _ _ _ h=>zj9 h) (λ_ _ _ _ h=>zkz h)
 have qlw:FnOk l.prog w K mg base (cxE l.prog w) 1 q8k _ ["self"] (zag K a):=zei T qjo  (λ_ _ _ _ h=>zed h) (λ_ _ _ _ h=>zee h)
 have qlx:FnOk l.prog w K mg base (cxE l.prog w) 1 q8l _ ["self","block","k"] (zam K a):=zh2 T qjp  (λ_ _ _ _ h=>zgw h) (λ_ _ _ _ h=>zhd h)
 have qly:FnOk l.prog w K mg base (cxE l.prog w) 1 q8m _ ["script","k"] (zbk K a):=zn8 T qjq  (λ_ _ _ _ h=>zlu h) (λ_ _ _ _ h=>zmy h)
 have qlz:FnOk l.prog w K mg base (cxE l.prog w) 1 q8n _ ["k","cell"] (zdf K a):=zsn T qjr  (λ_ _ _ _ h=>zpq h) (λ_ _ _ _ h=>zrj h)
 have qm0:FnOk l.prog w K mg base (cxE l.prog w) 2 q8o _ ["self","plank"] (zch K a):=zrm T qjs ⟨_,_,qlr,⟨q2g,q2h,q2k⟩,qkn⟩ (λ_ _ _ _ h=>znv h) (λ_ _ _ _ h=>zpj h)
 have qm1:FnOk l.prog w K mg base (cxE l.prog w) 2 q8p _ ["self","number"] (zbd K a):=zoa T qjt ⟨_,_,qlm,⟨q6z,q1u,q1x⟩,qki⟩ (λ_ _ _ _ h=>zl1 h) (λ_ _ _ _ h=>zm6 h)
 have qm2:FnOk l.prog w K mg base (cxE l.prog w) 2 q8q _ ["self","place"] (za2 K a):=zhg T qju ⟨_,_,qls,⟨q2l,q2m,q2p⟩,qko⟩ ⟨_,_,qlr,⟨q2g,q2h,q2k⟩,qkn⟩ (λ_ _ _ _ h=>zgp h) (λ_ _ _ _ h=>zgv h)
 have qm3:FnOk l.prog w K mg base (cxE l.prog w) 2 q8r _ ["self","block"] (zcg K a):=zp0 T qjv ⟨_,_,qlt,⟨q2q,q2r,q2u⟩,qkp⟩ (λ_ _ _ _ h=>zm0 h) (λ_ _ _ _ h=>znu h)
 have qm4:FnOk l.prog w K mg base (cxE l.prog w) 2 q8s _ ["self","k"] (zap K a):=zk3 T qjw ⟨_,_,qlx,⟨q3a,q3b,q3e⟩,qkt⟩ (λ_ _ _ _ h=>zjb h) (λ_ _ _ _ h=>zka h)
 have qm5:FnOk l.prog w K mg base (cxE l.prog w) 2 q8t _ ["self","k"] (zaz K a):=zje T qjx ⟨_,_,qlx,⟨q3a,q3b,q3e⟩,qkt⟩ (λ_ _ _ _ h=>zhc h) (λ_ _ _ _ h=>zhy h)
 have qm6:FnOk l.prog w K mg base (cxE l.prog w) 2 q8u _ ["self","k"] (zal K a):=zhi T qjy ⟨_,_,qlx,⟨q3a,q3b,q3e⟩,qkt⟩ ⟨_,_,qlw,⟨q35,q36,q39⟩,qks⟩ (λ_ _ _ _ h=>zgq h) (λ_ _ _ _ h=>zgx h)
 have qm7:FnOk l.prog w K mg base (cxE l.prog w) 2 q8v _ ["self"] (zbn K a):=zmb T qjz ⟨_,_,qlw,⟨q35,q36,q39⟩,qks⟩ (λ_ _ _ _ h=>zj8 h) (λ_ _ _ _ h=>zky h)
 have qm8:FnOk l.prog w K mg base (cxE l.prog w) 3 q8w _ ["self","place"] (zbl K a):=zoc T qk0 ⟨_,_,qm2,⟨q70,q3y,q41⟩,qky⟩ (λ_ _ _ _ h=>zly h) (λ_ _ _ _ h=>zm4 h)
 have qm9:FnOk l.prog w K mg base (cxE l.prog w) 3 q8x _ ["self"] (zbv K a):=znl T qk1 ⟨_,_,qm7,⟨q4m,q4n,q4q⟩,ql3⟩ ⟨_,_,qlq,⟨q11,q2b,q2c,q12⟩,PySem.W.mg_of X G q9,qkm⟩ (λ_ _ _ _ h=>zkx h) (λ_ _ _ _ h=>zl3 h)
 have qma:FnOk l.prog w K mg base (cxE l.prog w) 4 q8y _ ["self","place","value","needs"] (za6 K a):=zod T qk2 ⟨_,_,qm8,⟨q6y,q4s,q4v⟩,ql4⟩ ⟨_,_,qlm,⟨q6z,q1u,q1x⟩,qki⟩ ⟨_,_,qln,PySem.W.mg_of X G q1y,q21,qkj⟩ ⟨_,_,qll,⟨qv,q1o,q1p,qw⟩,PySem.W.mg_of X G q6,qkh⟩ (λ_ _ _ _ h=>zlz h) (λ_ _ _ _ h=>zm5 h)
 have qmb:FnOk l.prog w K mg base (cxE l.prog w) 4 q8z _ ["self","place"] (zay K a):=znm T qk3 ⟨_,_,qm8,⟨q6y,q4s,q4v⟩,ql4⟩ ⟨_,_,qm3,⟨q42,q43,q46⟩,qkz⟩ (λ_ _ _ _ h=>zkw h) (λ_ _ _ _ h=>zl0 h)
 have qmc:FnOk l.prog w K mg base (cxE l.prog w) 4 q90 _ ["self","layout","plank"] (zcj K a):=zp2 T qk4 ⟨_,_,qm0,⟨qx,q72,q3o,qy⟩,PySem.W.mg_of X G q7,qkw⟩ (λ_ _ _ _ h=>znc h) (λ_ _ _ _ h=>znz h)
 have qmd:FnOk l.prog w K mg base (cxE l.prog w) 5 q91 _ ["hold","places","values"] (zbe K a):=zoe T qk5 ⟨_,_,qmb,⟨q71,q57,q5a⟩,ql7⟩ (λ_ _ _ _ h=>zl4 h) (λ_ _ _ _ h=>zm8 h)
 have qme:FnOk l.prog w K mg base (cxE l.prog w) 5 q92 _ ["self"] (za0 K a):=zjg T qk6 ⟨_,_,qlv,⟨q30,q31,q34⟩,qkr⟩ ⟨_,_,qmb,⟨q71,q57,q5a⟩,ql7⟩ ⟨_,_,qm4,⟨q47,q48,q4b⟩,ql0⟩ (λ_ _ _ _ h=>zhe h) (λ_ _ _ _ h=>zhz h)
 have qmf:FnOk l.prog w K mg base (cxE l.prog w) 5 q93 _ ["self","cell","name","record","need"] (zba K a):=zkd T qk7 ⟨_,_,qma,⟨q73,q52,q55⟩,ql6⟩ ⟨_,_,qm4,⟨q47,q48,q4b⟩,ql0⟩ (λ_ _ _ _ h=>zh0 h) (λ_ _ _ _ h=>zjc h)
 have qmg:FnOk l.prog w K mg base (cxE l.prog w) 6 q94 _ ["layout","hold"] (zcv K a):=zrn T qk8 ⟨_,_,qlv,⟨q30,q31,q34⟩,qkr⟩ ⟨_,_,qm4,⟨q47,q48,q4b⟩,ql0⟩ ⟨_,_,qmd,PySem.W.mg_of X G q5g,q5j,ql9⟩ (λ_ _ _ _ h=>znx h) (λ_ _ _ _ h=>zpm h)
 have qmh:FnOk l.prog w K mg base (cxE l.prog w) 6 q95 _ ["layout","hold"] (zb7 K a):=zof T qk9 ⟨_,_,qlv,⟨q30,q31,q34⟩,qkr⟩ ⟨_,_,qm6,⟨q4h,q4i,q4l⟩,ql2⟩ ⟨_,_,qmd,PySem.W.mg_of X G q5g,q5j,ql9⟩ (λ_ _ _ _ h=>zl5 h) (λ_ _ _ _ h=>zna h)
 have qmi:FnOk l.prog w K mg base (cxE l.prog w) 6 q96 _ ["self"] (zb8 K a):=zoh T qka ⟨_,_,qme,⟨q5k,q5l,q5o⟩,qla⟩ (λ_ _ _ _ h=>zl6 h) (λ_ _ _ _ h=>zne h)
 have qmj:FnOk l.prog w K mg base (cxE l.prog w) 6 q97 _ ["self","name"] (zbo K a):=zmc T qkb ⟨_,_,qme,⟨q5k,q5l,q5o⟩,qla⟩ (λ_ _ _ _ h=>zkc h) (λ_ _ _ _ h=>zk1 h)
 have qmk:FnOk l.prog w K mg base (cxE l.prog w) 7 q98 _ ["self","new","given"] (zar K a):=zf1 T qkc ⟨_,_,qlo,PySem.W.mg_of X G q22,q25,qkk⟩ ⟨_,_,qmj,⟨q67,q68,q6b⟩,qlf⟩ (λ_ _ _ _ h=>zfj h) (λ_ _ _ _ h=>zfn h)
 have qml:FnOk l.prog w K mg base (cxE l.prog w) 8 q99 _ ["self","name"] (zbt K a):=zp3 T qkd ⟨_,_,qmk,⟨q6c,q6d,q6g⟩,qlg⟩ ⟨_,_,qmh,PySem.W.mg_of X G q5y,q61,qld⟩ ⟨_,_,qmg,PySem.W.mg_of X G q5u,q5x,qlc⟩ ⟨_,_,qma,⟨q73,q52,q55⟩,ql6⟩ ⟨_,_,qm6,⟨q4h,q4i,q4l⟩,ql2⟩ ⟨_,_,qm5,⟨q4c,q4d,q4g⟩,ql1⟩ ⟨_,_,qmf,⟨q5p,q5q,q5t⟩,qlb⟩ (λ_ _ _ _ h=>znf h) (λ_ _ _ _ h=>zn0 h)
 have qmm:FnOk l.prog w K mg base (cxE l.prog w) 9 q9a _ ["layout","store","name","k"] (zdg K a):=zso T qke ⟨_,_,qml,⟨q6h,q6i,q6l⟩,qlh⟩ ⟨_,_,qlp,⟨q26,q27,q2a⟩,qkl⟩ ⟨_,_,qmb,⟨q71,q57,q5a⟩,ql7⟩ ⟨_,_,qm5,⟨q4c,q4d,q4g⟩,ql1⟩ ⟨_,_,qm6,⟨q4h,q4i,q4l⟩,ql2⟩ ⟨_,_,qm4,⟨q47,q48,q4b⟩,ql0⟩ ⟨_,_,qm1,⟨q74,q3t,q3w⟩,qkx⟩ (λ_ _ _ _ h=>zpr h) (λ_ _ _ _ h=>zrk h)
 have qmn:FnOk l.prog w K mg base (cxE l.prog w) 9 q9b _ ["store","name"] (zb9 K a):=zoi T qkf ⟨_,_,qml,⟨q6h,q6i,q6l⟩,qlh⟩ (λ_ _ _ _ h=>zl7 h) (λ_ _ _ _ h=>znh h)
 have qmo:FnOk l.prog w K mg base (cxE l.prog w) 10 fa _ ["script"] (zou K a):=zaca T qkg ⟨_,_,qly,PySem.W.mg_of X G q3f,q3i,qku⟩ ⟨_,_,qlu,⟨qz,q2v,q2w,q10⟩,PySem.W.mg_of X G qa,qkq⟩ ⟨_,_,qm9,⟨q4w,q4x,q50⟩,ql5⟩ ⟨_,_,qmc,⟨q13,q5b,q5c,q14⟩,PySem.W.mg_of X G q8,ql8⟩ ⟨_,_,qlz,PySem.W.mg_of X G q3j,q3m,qkv⟩ ⟨_,_,qmm,PySem.W.mg_of X G q6m,q6p,qli⟩ ⟨_,_,qmn,PySem.W.mg_of X G q6q,q6t,qlj⟩ ⟨_,_,qmi,⟨q62,q63,q66⟩,qle⟩ (λ_ _ _ _ h=>zxk h) (λ_ _ _ _ h=>zz4 h)
 exact qmo.imp (λvs H Q E ⟨s,ns,e,hs,hn,q⟩=>⟨s,ns,e,⟨TBk,TPk,TLy,TSt⟩,TRm,hs,hn,q⟩)
theorem walk{l:PySem.W.OpenLaw}{q:Program}{loose:List Str}{XP:(Str->Option Value)->Heap->Prop}{YP:World->Heap->Prop}{d:DefRec}{K:Params->PySem.W.Frag}(hn:l.most=some 63)(hdf:d.params.defaults=[])
  (hY:∀ (w:World) (h:Heap),YP w h->(K w.params).In h)
  (F:∀ (w:World) (mg:Str->Option Value) (fa:Addr) (h:Heap),(K w.params).In h->h.Ns mainGlobals mg->mg d.name=some (.ref fa) →
   ∃ fd:FuncData,(∀ (s:Shared) (u:Value),BindsTo s fd ⟨[u],[]⟩ [("script",u)])/\∀ base:Heap,(K w.params).In base->base.Ns mainGlobals mg->FnOk l.prog w (K w.params) mg base (cxE l.prog w) 10 fa fd ["script"] (spL (K w.params))) :
  PySem.W.WalkO q loose XP YP l.row.toRowW d [] (λf vs=>PySem.call f vs) :=
 L2.walk_of (n:=63) (k:=10) (x:="script") (CX:=λw=>cxE l.prog w) (sp:=λw=>spL (K w.params)) hn (by decide) hdf ⟨rfl,by decide,by decide⟩ hY F (λ_ _ a ns hl _ hS=>⟨a,ns,rfl,hS,hl,λ_=>rfl⟩) λ_ _ _ _ _ z=>zxr z
end L2
namespace PySem.W.Fast
def tw16174729570663317123:=()
def tw6456839598773366946:=()
def tw15617822560443246868:=()
def tw13683094907215786800:=()
def tw15787669522362989294:=()
def tw16157888182601226857:=()
def tw1700070557475666304:=()
def tw12473367085551389840:=()
def tw7127629400453492591:=()
def tw12438785279007977516:=()
def tw10627530731434319351:=()
def tw3082886820476658788:=()
def tw1894752954838784087:=()
def tw11269857372058310025:=()
def tw1084495957198146804:=()
def tw195020622688938336:=()
def tw7910507069653768246:=()
def tw1324893278294778699:=()
def tw7540580691932839608:=()
def tw3499418341583869952:=()
def tw8654665113829844669:=()
def tw12082357486394640281:=()
def tw1913938046560379991:=()
def tw13499884914330103005:=()
def tw17126145050598792434:=()
def tw6918928871975263589:=()
def tw10077213222005855419:=()
def tw10527488594989187066:=()
def tw6989512263211990043:=()
def tw16104576628435681558:=()
def tw10674170852992738311:=()
def tw11720992157300522451:=()
def tw5878884953529905266:=()
def tw8560795243840928981:=()
def tw14322325017648623199:=()
def tw15941434494382666413:=()
def tw15450795006499693984:=()
def tw17216895042804150254:=()
def tw8372362352790953647:=()
def tw7624757181792525975:=()
def tw15272187652864409558:=()
def tw7943790704055195143:=()
def tw5341558672307505766:=()
def tw16760953569615720307:=()
def tw10679629385642602030:=()
def tw4755325116515623095:=()
def tw14258570589432995933:=()
def tw7640744875810140974:=()
def tw270689188632940835:=()
def tw13294552491162743974:=()
def tw3282717679568924107:=()
def tw452526377334741603:=()
def tw2904855877867316391:=()
def tw2447329096966118085:=()
def tw9696725675025306333:=()
def tw15250024838284903209:=()
def tw15859090866998476497:=()
def tw9141255770197125603:=()
def tw3598122446083360785:=()
def tw2121019764828646266:=()
def tw479672329563373183:=()
def tw11005040583081138090:=()
def tw2627669920520288848:=()
def tw6137796434649541594:=()
def tw1849330515838345904:=()
def tw1857025964391876429:=()
def tw6490441068759766871:=()
def tw5891579953055647525:=()
def tw14422051452068836892:=()
def tw4947556798878992693:=()
def tw4606221001641039066:=()
def tw2670616342535047968:=()
def tw7698211349796117296:=()
def tw6412784495502061832:=()
def tw14946189627050155069:=()
def tw7393984595341078297:=()
def tw6271855393931872016:=()
def tw12253611844841818517:=()
def tw16621239776835477580:=()
def tw1889830408258799748:=()
def tw15892296650511535621:=()
def tw15901432348196421404:=()
def tw14196440373271817207:=()
def tw4689255475259498610:=()
def tw2909561295281833857:=()
def tw4850643042093077264:=()
def tw11353049727097788162:=()
def tw17026735834106008180:=()
def tw3643127588610540133:=()
def tw8523239901269836242:=()
def tw14968830268485700424:=()
def tw1093939791355709645:=()
def tw7570127513818026491:=()
def tw4104514475449473124:=()
def tw2119651191860533406:=()
def tw8862233029369539764:=()
def tw8269210174180275675:=()
def tw6992052672067993154:=()
def tw5111705324925060493:=()
def tw11577019866007826865:=()
def tw4596616573315126336:=()
def tw16189439337888905443:=()
def tw8367972508120640706:=()
def tw11897995919356006393:=()
def tw4094644565517029701:=()
def tw12745523690213952680:=()
def tw2713430012784140426:=()
def tw11727538251507581729:=()
def tw11520237799524423505:=()
def tw8356928796806579898:=()
def tw16981088725643723586:=()
def tw13059565072473247148:=()
def tw692943493140766764:=()
def tw16638786853463370190:=()
def tw13435053497260514500:=()
def tw15184868973878383033:=()
def tw9355209712102121960:=()
def tw13735080699402813075:=()
def tw10989223766962227984:=()
def tw13688308769137071756:=()
def tw15765345854335225204:=()
def tw10642225408738442144:=()
def tw8998859687772366366:=()
def tw10745609598454479986:=()
def tw10521313225290016612:=()
def tw17251245030399526852:=()
def tw6899948670050253264:=()
def tw13409282702406857165:=()
def tw1760278114616043707:=()
def tw9153778391777201732:=()
def tw7966721423014416868:=()
def tw12139119373853624198:=()
def tw3628813083151546367:=()
def tw13913969730318112611:=()
def tw15398871264595470691:=()
def tw353659556262461368:=()
def tw7722795309224548438:=()
def tw6390491063114399309:=()
def tw2832736913340893600:=()
def tw2397812972807047701:=()
def tw11790908900411862863:=()
def tw5019315627140823472:=()
def tw4363310277462588768:=()
def tw6834674268910888234:=()
def tw7858975571816336371:=()
def tw3061623084182167210:=()
def tw13458219287560094783:=()
def tw7276241381579359541:=()
def tw13754887266196126140:=()
def tw10912186006388456380:=()
def tw3740284278716052434:=()
def tw7627376639966556128:=()
def tw6144215993416897432:=()
def tw4605462017635574779:=()
def tw16581705702157644333:=()
def tw4225784280353056944:=()
def tw15307751697345864752:=()
def tw4302048854183315049:=()
def tw6028724703426225002:=()
def tw9051617729454583280:=()
def tw4622265033576200998:=()
def tw2004436025688399163:=()
def tw11733949487739747700:=()
def tw7572929971442655356:=()
def tw1188884338741174795:=()
def tw9747043460048791680:=()
def tw15007592767365241124:=()
def tw1639474964074529070:=()
def tw13283536417507306536:=()
def tw5288909917974359417:=()
def tw6326315639725293077:=()
def tw14161930156252263460:=()
def tw11830420425312734775:=()
def tw17093978704432207059:=()
def tw7783536309474782656:=()
def tw878878641284983724:=()
def tw17253115944749204877:=()
def tw7905232467824245379:=()
def tw5098509653587385563:=()
def tw11232410491749310916:=()
def tw5398820070375627144:=()
def tw15393378482401407268:=()
def tw9668320904720511362:=()
def tw14719499758808672066:=()
def tw9533191689305644944:=()
def tw17255008701219714013:=()
def tw11882957407372623796:=()
def tw9513724713030018803:=()
def tw4044948222906187638:=()
def tw2316536292348806794:=()
def tw1566583577001597185:=()
def tw1232066061525779765:=()
def tw3257143887059102654:=()
def tw14129682858299607468:=()
def tw15050356663743080967:=()
def tw13039878420698513676:=()
def tw6826343287885125312:=()
def tw8478900021931398595:=()
def tw8715375685967245845:=()
def tw13514788231618467976:=()
def tw1626615409846827603:=()
def tw12639561077202594348:=()
def tw5972035365491181471:=()
def tw15989966035199840461:=()
def tw3584764570069283415:=()
def tw14779124755593032684:=()
def tw7914526170464443925:=()
def tw16217818568019548623:=()
def tw1932485437330014473:=()
def tw14436897913698009846:=()
def tw12331469836247702897:=()
def tw1597580927535638588:=()
def tw15769133487705083943:=()
def tw6023611895506476771:=()
def tw16427993465185036265:=()
def tw1913812769206799998:=()
def tw18392037804315653617:=()
def tw8934863766373291001:=()
def tw6998824296508206230:=()
def tw9222995031878554449:=()
def tw17139492750234565959:=()
def tw4671534156580773887:=()
def tw11643766687054633925:=()
def tw8957940695220348677:=()
def tw6060150407978738479:=()
def tw13607484593598286037:=()
def tw16432204835021589408:=()
def tw16632454650627974104:=()
def tw14511317371041365032:=()
def tw12788249521714496058:=()
def tw7121482342953600811:=()
def tw6788179416651239525:=()
def tw11743834585675440421:=()
def tw9802000530496356515:=()
def tw1478527514378892152:=()
def tw5226801577423163067:=()
def tw11809412598652323766:=()
def tw111565059247390846:=()
def tw260907707500917417:=()
def tw16457373732803331492:=()
def tw891803759223549693:=()
def tw13409970865891553216:=()
def tw3633563778896002045:=()
def tw9176998692442180320:=()
def tw11834008123940089202:=()
def tw7097399067418992926:=()
def tw18118729472278508096:=()
def tw9030299395633157304:=()
def tw2203652243420354995:=()
def tw1190784353136687481:=()
def tw13785812673809510423:=()
def tw8352545814048972052:=()
def tw16944878889132304114:=()
def tw2887684888519826806:=()
def tw7740509258853753997:=()
def tw883591934464897601:=()
def tw13329228888352723127:=()
def tw13622908478327249749:=()
def tw13441172180298730238:=()
def tw10923042513220836846:=()
def tw13022423918966211794:=()
def tw5566811580371354114:=()
def tw18032813268348859743:=()
def tw10054223666226289124:=()
def tw2842651660654636712:=()
def tw15648427150992372012:=()
def tw1624735953734278641:=()
def tw13572195314269693218:=()
def tw15553533586560673562:=()
def tw4465518417081040605:=()
def tw12667456770707633406:=()
def tw2914734169367360990:=()
def tw9542279273291121010:=()
def tw13150350690368639701:=()
def tw15786719126119430662:=()
def tw9628701734321999998:=()
def tw12943151646869699713:=()
def tw16899671099776409267:=()
def tw3626960696959583797:=()
def tw16300476953173012917:=()
def tw8938389703646048960:=()
def tw14069011789580484693:=()
def tw9880757903205268956:=()
def tw5587097366438946362:=()
def tw1509319552549839385:=()
def tw11463170182797113660:=()
def tw4621839881004787891:=()
def tw16922715116152169696:=()
def tw1170255815381446542:=()
def tw3805145770069823959:=()
def tw11709927753867973890:=()
def tw4918525558914738196:=()
def tw3075699064085869632:=()
def tw16314609923171925746:=()
def tw13346357311517987696:=()
def tw12510634485715310787:=()
def tw16264865079393377589:=()
def tw4243672150706860839:=()
def tw2530714651057968334:=()
def tw1493230468341339689:=()
def tw15335581060204262423:=()
def tw7688962253767491669:=()
def tw57206050730953835:=()
def tw18318781002237582534:=()
def tw17850374928393739623:=()
def tw14560862669558957042:=()
def tw6465382709823798739:=()
def tw4518033799385704900:=()
def tw14834335506536439863:=()
def tw13284471775621736596:=()
def tw7088128407210671190:=()
def tw11498042694936512290:=()
def tw16173898391745820172:=()
def tw17223271971741261925:=()
def tw1511453515851963965:=()
def tw18219258214077869391:=()
def tw14498031176796535689:=()
def tw13536957072601068931:=()
def tw12823462193469877148:=()
def tw729374298852297200:=()
def tw5796923636835744040:=()
def tw6315582944680506292:=()
def tw766190348632131839:=()
def tw12575895618615924801:=()
def tw6806391992165621112:=()
def tw11144539758969256787:=()
def tw312166416647892154:=()
def tw16916863983758298682:=()
def tw400232029481408854:=()
def tw10395465832667819627:=()
def tw217430724894719357:=()
def tw14376733290787446981:=()
def tw2656661946063189589:=()
def tw7986063987934923311:=()
def tw10972525540080139853:=()
def tw9318613311331381196:=()
def tw2486908808253972578:=()
def tw14875462498134987852:=()
def tw11715247204719447181:=()
def tw11665094720295751012:=()
def tw7264964870039666187:=()
def tw7846263009550804331:=()
def tw8984713926653196449:=()
def tw8389781730983127084:=()
def tw12970383209820273621:=()
def tw14591957550976670185:=()
def tw12299507827192432140:=()
def tw5447607777827895928:=()
def tw9865789745944934675:=()
def tw7797632433997543432:=()
def tw6081107077858261370:=()
def tw981022965693675770:=()
def tw5683899098567853786:=()
def tw6190065680857634407:=()
def tw49200905285738638:=()
def tw13972536121064072237:=()
def tw8651547307171694012:=()
def tw5284101538406743761:=()
def tw8833774410026360114:=()
def tw9548906264546478223:=()
def tw4270900381855062881:=()
def tw18048116528229786019:=()
def tw12561838014316555592:=()
def tw5359212807573152058:=()
def tw5023194902027052460:=()
def tw16505133295120043986:=()
def tw1534280898625736346:=()
def tw14567559780252014683:=()
def tw11112678924587201943:=()
def tw15958079503922926100:=()
def tw13706118459294418184:=()
def tw2425050764384796527:=()
def tw606840492701803251:=()
def tw6499054456377742964:=()
def tw7374774729619257736:=()
def tw15999651201976095446:=()
def tw146350810734392934:=()
def tw2869141608523941683:=()
def tw13115209729286808883:=()
def tw10815921412843334153:=()
def tw147326305563670025:=()
def tw4629224674001614713:=()
def tw14118605206080020251:=()
def tw5618738716428562359:=()
def tw4428848603847857274:=()
def tw8184333178249868129:=()
def tw5125927189592011644:=()
def tw4217188766093374342:=()
def tw13847344630624800432:=()
def tw7242816501510214474:=()
def tw16359929444676978509:=()
def tw16590618968260452491:=()
def tw2706511662293414854:=()
def tw11507481806054577262:=()
def tw9750874255671026394:=()
def tw7190673882441563272:=()
def tw11724097617911518394:=()
def tw4018236854112624304:=()
def tw7170435038568302197:=()
def tw1227568534245562305:=()
def tw1924244048864435977:=()
def tw899278232057515143:=()
def tw13672044654996971067:=()
def tw6531526424162036348:=()
def tw819760296600828602:=()
def tw15344448594532584459:=()
def tw1273109493361444899:=()
def tw18060984374069186790:=()
def tw14081541537897220713:=()
def tw865917787269314912:=()
def tw825138411026240336:=()
def tw322109065646264101:=()
def tw8981897125851715105:=()
def tw11014123680302128958:=()
def tw5360036489777990227:=()
def tw16851590610058389240:=()
def tw10144511792081171086:=()
def tw17664168520574100316:=()
def tw6983958410612299656:=()
def tw6070274839747939191:=()
def tw3538901400902811042:=()
def tw4785897304267281816:=()
def tw2326652906805202893:=()
def tw9779067203735826900:=()
def tw8298666422194129538:=()
def tw4999625134839207:=()
def tw8115545908725542909:=()
def tw9112186859070051236:=()
def tw14011142802419764918:=()
def tw10922694731939459019:=()
def tw9057461778728906085:=()
def tw11364022513601029907:=()
def tw2549612002399525237:=()
def tw14497068280711155557:=()
def tw16312295817336783849:=()
def tw5115581781937038817:=()
def tw2718040825629084820:=()
def tw11559316463694296413:=()
def tw17131379837565183521:=()
def tw263186379242414587:=()
def tw8307863149715520050:=()
def tw756518322994616242:=()
def tw18420406230273780695:=()
def tw14155726239120625200:=()
def tw8319305783686133070:=()
def tw9654003443778166505:=()
def tw6862043137543666314:=()
def tw14594753423582292034:=()
def tw14694598210226946392:=()
def tw16474396532251608009:=()
def tw15772534034065601135:=()
def tw3922053162060407890:=()
def tw3442851981709119647:=()
def tw3874769276158778098:=()
def tw6070715168445413731:=()
def tw15635739474792598189:=()
def tw7620353833798725512:=()
def tw10416821120987690096:=()
def tw7927632470208482557:=()
def tw16895187879250616633:=()
def tw17709965686323950783:=()
def tw2620870458686773756:=()
def tw1776427225861843534:=()
def tw15581657096602382503:=()
def tw6217495638787768871:=()
def tw12642920662792465351:=()
def tw4484235638543828206:=()
def tw8972182576436974759:=()
def tw18389487131743117670:=()
def tw5077270241870127073:=()
def tw18250174643151687127:=()
def tw5957391446681192094:=()
def tw4881097958860734579:=()
def tw17554342845201144764:=()
def tw872519131499794773:=()
def tw8169387588001466081:=()
def tw2886169192052360785:=()
def tw7910425257055340096:=()
def tw13984118936430317433:=()
def tw2358742478509192254:=()
def tw13968086134920979670:=()
def tw1535972887868930687:=()
def tw5158679867199378351:=()
def tw7433764102010051331:=()
def tw4458114065661265867:=()
def tw15178864756270709150:=()
def tw6237039474523948052:=()
def tw12107463643498640730:=()
def tw14809609071814338165:=()
def tw285742574212957134:=()
def tw14947721862480615864:=()
def tw2496813390187312832:=()
def tw3923309035357525077:=()
def tw959608111882783662:=()
def tw8524033557645002007:=()
def tw15195287393703573072:=()
def tw8861320267048057714:=()
def tw444555583368602666:=()
def tw544912925615090352:=()
def tw6155638636480274808:=()
def tw16933125399751619131:=()
def tw12596953744170096992:=()
def tw14615267621536562840:=()
def tw11974226645061544221:=()
def tw10152483109329315871:=()
def tw7218658069676065234:=()
def tw4560225287611009718:=()
def tw760946587871501774:=()
def tw4004916344425112369:=()
def tw15179140883539173821:=()
def tw4762205595948148412:=()
def tw16608583466257914108:=()
def tw1684688986099657744:=()
def tw12578888779740098721:=()
def tw3442742649637222031:=()
def tw2604663903177483295:=()
def tw3656297617986613452:=()
def tw10161905928328112927:=()
def tw3186783299206371652:=()
def tw6589823153040824028:=()
def tw753602283831839152:=()
def tw4569322257735904636:=()
def tw7765413234083461950:=()
def tw5052364737616149227:=()
def tw11373185076460991831:=()
def tw15312182311822023563:=()
def tw14638560892453098932:=()
def tw13266870847963630244:=()
def tw18109552087979972506:=()
def tw12873014021261374038:=()
def tw7980628102401901731:=()
def tw4290915991520686319:=()
def tw16889971467371407960:=()
def tw17003342925247308409:=()
def tw6843426140236890771:=()
def tw11433113995703587327:=()
def tw2339304806930600482:=()
def tw12484962363272809661:=()
def tw13921201889402131060:=()
def tw12159216023337598825:=()
def tw13661928964744703230:=()
def tw16018059662218911566:=()
def tw889050551946798065:=()
def tw16279350204801319214:=()
def tw1967814156459969654:=()
def tw11123571786488141856:=()
def tw161822715068093146:=()
def tw11494267480541894867:=()
def tw13166686423390607138:=()
def tw11190892834711290999:=()
def tw12119713708506952308:=()
def tw9557999370508024584:=()
def tw3782500637762674957:=()
def tw8650407282328852922:=()
def tw13639008938782083911:=()
def tw2247272096661357447:=()
def tw17549708590326634827:=()
def tw14233588897310347803:=()
def tw10171286881471918036:=()
def tw15221139311320013057:=()
def tw9970040048188248886:=()
def tw11248230642055785413:=()
def tw4761281007604855934:=()
def tw1631418563693281741:=()
def tw6154983985251007625:=()
def tw9007677435607157475:=()
def tw14180134265564426251:=()
def tw5349491471081044192:=()
def tw7805703874302105828:=()
def tw15475773289081140509:=()
def tw7740637424063267637:=()
def tw11414201361637338486:=()
def tw8558382560789143998:=()
def tw4766846726646410204:=()
def tw1075988880639045942:=()
def tw9870830490585728870:=()
def tw16027982485335173077:=()
def tw3712429518947944602:=()
def tw9165210672244699821:=()
def tw15646374272126495438:=()
def tw4062270622960834818:=()
def tw6994782098105481254:=()
def tw8412037555565522454:=()
def tw4316306043727484757:=()
def tw7102022106608644053:=()
def tw7658358976569321407:=()
def tw8611883950170338517:=()
def tw9097579281458440137:=()
def tw3630759295817927624:=()
def tw15543363717117730747:=()
def tw5189183996423984554:=()
def tw2480609453004904029:=()
def tw15141819173541312394:=()
def tw9462149958505944995:=()
def tw5760296371271229728:=()
def tw12943061340994446853:=()
def tw286253909480335533:=()
def tw17808207787941250077:=()
def tw4497890133789396948:=()
def tw9207549212878758828:=()
def tw7515670961010044855:=()
def tw17476182166734609631:=()
def tw8833296673564264486:=()
def tw3557683013441052451:=()
def tw17537387630720742353:=()
def tw16772765046522864693:=()
def tw13417231237012198926:=()
def tw7123618966878202806:=()
def tw12305542850711174881:=()
def tw832619459156627155:=()
def tw16198926937981199656:=()
def tw2518737575686769337:=()
def tw11624226745540963122:=()
def tw5706719609142578268:=()
def tw17289938302796144625:=()
def tw18121901785281036735:=()
def tw12942451964174609579:=()
def tw17269056572315722328:=()
def tw15989286485941776748:=()
def tw13730869102262222484:=()
def tw18245679383675856756:=()
def tw18089426184110705597:=()
def tw17548670602676410590:=()
def tw5239453150936685757:=()
def tw12283789955787669730:=()
def tw9093873775001431701:=()
def tw5122263271080441088:=()
def tw5166702195739389139:=()
def tw1617315646997971060:=()
def tw3341839033989469968:=()
def tw1719035690860674775:=()
def tw17141491216557589919:=()
def tw4615736695003128669:=()
end PySem.W.Fast
open PySem PySem.W PyProof.Rows
set_option Elab.async false
set_option maxRecDepth 100000 in
set_option maxHeartbeats 0 in
theorem PySem.Challenge.cw_holdback_k41_names_made_holds : PySem.Challenge.rw_holdback_k41_names_made.Holds := by
 w_on;o_law;k_head;(case hw=>w_witness2)
 k_fill
 refine L2.walk (l:=PySem.Challenge.rw_holdback_k41_names_made) rfl rfl (λw h Y=>PySem.W.kIn_of Y) ?F
 case F =>
  intro w mg fa h KX G hmg
  refine' L2.all_mk KX G hmg ?q0 ?q1 ?q2 ?q3 ?q4 ?q5 ?q6 ?q7 ?q8 ?q9 ?qa ?qb ?qc ?qd ?qe ?qf ?qg ?qh ?qi ?qj ?qk ?ql ?qm ?qn ?qo ?qp ?qq ?qr ?qs ?qt ?qu ?qv ?qw ?qx ?qy ?qz ?q10 ?q11 ?q12 ?q13 ?q14 ?q15 ?q16 ?q17 ?q18 ?q19 ?q1a ?q1b ?q1c ?q1d ?q1e ?q1f ?q1g ?q1h ?q1i ?q1j ?q1k ?q1l ?q1m ?q1n ?q1o ?q1p ?q1q ?q1r ?q1s ?q1t ?q1u ?q1v ?q1w ?q1x ?q1y ?q1z ?q20 ?q21 ?q22 ?q23 ?q24 ?q25 ?q26 ?q27 ?q28 ?q29 ?q2a ?q2b ?q2c ?q2d ?q2e ?q2f ?q2g ?q2h ?q2i ?q2j ?q2k ?q2l ?q2m ?q2n ?q2o ?q2p ?q2q ?q2r ?q2s ?q2t ?q2u ?q2v ?q2w ?q2x ?q2y ?q2z ?q30 ?q31 ?q32 ?q33 ?q34 ?q35 ?q36 ?q37 ?q38 ?q39 ?q3a ?q3b ?q3c ?q3d ?q3e ?q3f ?q3g ?q3h ?q3i ?q3j ?q3k ?q3l ?q3m ?q3n ?q3o ?q3p ?q3q ?q3r ?q3s ?q3t ?q3u ?q3v ?q3w ?q3x ?q3y ?q3z ?q40 ?q41 ?q42 ?q43 ?q44 ?q45 ?q46 ?q47 ?q48 ?q49 ?q4a ?q4b ?q4c ?q4d ?q4e ?q4f ?q4g ?q4h ?q4i ?q4j ?q4k ?q4l ?q4m ?q4n ?q4o ?q4p ?q4q ?q4r ?q4s ?q4t ?q4u ?q4v ?q4w ?q4x ?q4y ?q4z ?q50 ?q51 ?q52 ?q53 ?q54 ?q55 ?q56 ?q57 ?q58 ?q59 ?q5a ?q5b ?q5c ?q5d ?q5e ?q5f ?q5g ?q5h ?q5i ?q5j ?q5k ?q5l ?q5m ?q5n ?q5o ?q5p ?q5q ?q5r ?q5s ?q5t ?q5u ?q5v ?q5w ?q5x ?q5y ?q5z ?q60 ?q61 ?q62 ?q63 ?q64 ?q65 ?q66 ?q67 ?q68 ?q69 ?q6a ?q6b ?q6c ?q6d ?q6e ?q6f ?q6g ?q6h ?q6i ?q6j ?q6k ?q6l ?q6m ?q6n ?q6o ?q6p ?q6q ?q6r ?q6s ?q6t ?q6u ?q6v ?q6w ?q6x ?q6y ?q6z ?q70 ?q71 ?q72 ?q73 ?q74 ?q75 ?q76 ?q77 ?q78 ?q79 ?q7a ?q7b ?q7c ?q7d ?q7e ?q7f ?q7g ?q7h ?q7i ?q7j ?q7k ?q7l ?q7m ?q7n ?q7o ?q7p ?q7q ?q7r ?q7s ?q7t ?q7u ?q7v ?q7w ?q7x
  (case q0=>k_is)
  (case q1=>k_is)
  (case q2=>k_is)
  (case q3=>k_is)
  (case q4=>k_is)
  (case q5=>k_is)
  (case q6=>k_is)
  (case q7=>k_is)
  (case q8=>k_is)
  (case q9=>k_is)
  (case qa=>k_is)
  (case qb=>k_is)
  (case qc=>k_is)
  (case qd=>k_is)
  (case qe=>k_is)
  (case qf=>k_is)
  (case qg=>k_is)
  (case qh=>k_is)
  (case qi=>k_is)
  (case qj=>k_is)
  (case qk=>k_is)
  (case ql=>k_is)
  (case qm=>k_is)
  (case qn=>k_is)
  (case qo=>k_is)
  (case qp=>k_is)
  (case qq=>k_is)
  (case qr=>k_is)
  (case qs=>k_is)
  (case qt=>k_is)
  (case qu=>k_is)
  (case qv=>k_is)
  (case qw=>k_is)
  (case qx=>k_is)
  (case qy=>k_is)
  (case qz=>k_is)
  (case q10=>k_is)
  (case q11=>k_is)
  (case q12=>k_is)
  (case q13=>k_is)
  (case q14=>k_is)
  (case q15=>k_exc)
  (case q16=>k_is)
  (case q17=>k_exc)
  (case q18=>k_exc)
  (case q19=>k_exc)
  (case q1a=>k_exc)
  (case q1b=>k_exc)
  (case q1c=>k_is)
  (case q1d=>k_is)
  (case q1e=>k_is)
  (case q1f=>k_is)
  (case q1g=>k_is)
  (case q1h=>k_is)
  (case q1i=>k_is)
  (case q1j=>k_is)
  (case q1k=>k_is)
  (case q1l=>k_is)
  (case q1m=>k_is)
  (case q1n=>k_is)
  (case q1o=>k_is)
  (case q1p=>k_is)
  (case q1q=>k_is)
  (case q1r=>k_is)
  (case q1s=>k_is)
  (case q1t=>k_is)
  (case q1u=>k_is)
  (case q1v=>k_is)
  (case q1w=>k_is)
  (case q1x=>k_is)
  (case q1y=>k_is)
  (case q1z=>k_is)
  (case q20=>k_is)
  (case q21=>k_is)
  (case q22=>k_is)
  (case q23=>k_is)
  (case q24=>k_is)
  (case q25=>k_is)
  (case q26=>k_is)
  (case q27=>k_is)
  (case q28=>k_is)
  (case q29=>k_is)
  (case q2a=>k_is)
  (case q2b=>k_is)
  (case q2c=>k_is)
  (case q2d=>k_is)
  (case q2e=>k_is)
  (case q2f=>k_is)
  (case q2g=>k_is)
  (case q2h=>k_is)
  (case q2i=>k_is)
  (case q2j=>k_is)
  (case q2k=>k_is)
  (case q2l=>k_is)
  (case q2m=>k_is)
  (case q2n=>k_is)
  (case q2o=>k_is)
  (case q2p=>k_is)
  (case q2q=>k_is)
  (case q2r=>k_is)
  (case q2s=>k_is)
  (case q2t=>k_is)
  (case q2u=>k_is)
  (case q2v=>k_is)
  (case q2w=>k_is)
  (case q2x=>k_is)
  (case q2y=>k_is)
  (case q2z=>k_is)
  (case q30=>k_is)
  (case q31=>k_is)
  (case q32=>k_is)
  (case q33=>k_is)
  (case q34=>k_is)
  (case q35=>k_is)
  (case q36=>k_is)
  (case q37=>k_is)
  (case q38=>k_is)
  (case q39=>k_is)
  (case q3a=>k_is)
  (case q3b=>k_is)
  (case q3c=>k_is)
  (case q3d=>k_is)
  (case q3e=>k_is)
  (case q3f=>k_is)
  (case q3g=>k_is)
  (case q3h=>k_is)
  (case q3i=>k_is)
  (case q3j=>k_is)
  (case q3k=>k_is)
  (case q3l=>k_is)
  (case q3m=>k_is)
  (case q3n=>k_is)
  (case q3o=>k_is)
  (case q3p=>k_is)
  (case q3q=>k_is)
  (case q3r=>k_is)
  (case q3s=>k_is)
  (case q3t=>k_is)
  (case q3u=>k_is)
  (case q3v=>k_is)
  (case q3w=>k_is)
  (case q3x=>k_is)
  (case q3y=>k_is)
  (case q3z=>k_is)
  (case q40=>k_is)
  (case q41=>k_is)
  (case q42=>k_is)
  (case q43=>k_is)
  (case q44=>k_is)
  (case q45=>k_is)
  (case q46=>k_is)
  (case q47=>k_is)
  (case q48=>k_is)
  (case q49=>k_is)
  (case q4a=>k_is)
  (case q4b=>k_is)
  (case q4c=>k_is)
  (case q4d=>k_is)
  (case q4e=>k_is)
  (case q4f=>k_is)
  (case q4g=>k_is)
  (case q4h=>k_is)
  (case q4i=>k_is)
  (case q4j=>k_is)
  (case q4k=>k_is)
  (case q4l=>k_is)
  (case q4m=>k_is)
  (case q4n=>k_is)
  (case q4o=>k_is)
  (case q4p=>k_is)
  (case q4q=>k_is)
  (case q4r=>k_is)
  (case q4s=>k_is)
  (case q4t=>k_is)
  (case q4u=>k_is)
  (case q4v=>k_is)
  (case q4w=>k_is)
  (case q4x=>k_is)
  (case q4y=>k_is)
  (case q4z=>k_is)
  (case q50=>k_is)
  (case q51=>k_is)
  (case q52=>k_is)
  (case q53=>k_is)
  (case q54=>k_is)
  (case q55=>k_is)
  (case q56=>k_is)
  (case q57=>k_is)
  (case q58=>k_is)
  (case q59=>k_is)
  (case q5a=>k_is)
  (case q5b=>k_is)
  (case q5c=>k_is)
  (case q5d=>k_is)
  (case q5e=>k_is)
  (case q5f=>k_is)
  (case q5g=>k_is)
  (case q5h=>k_is)
  (case q5i=>k_is)
  (case q5j=>k_is)
  (case q5k=>k_is)
  (case q5l=>k_is)
  (case q5m=>k_is)
  (case q5n=>k_is)
  (case q5o=>k_is)
  (case q5p=>k_is)
  (case q5q=>k_is)
  (case q5r=>k_is)
  (case q5s=>k_is)
  (case q5t=>k_is)
  (case q5u=>k_is)
  (case q5v=>k_is)
  (case q5w=>k_is)
  (case q5x=>k_is)
  (case q5y=>k_is)
  (case q5z=>k_is)
  (case q60=>k_is)
  (case q61=>k_is)
  (case q62=>k_is)
  (case q63=>k_is)
  (case q64=>k_is)
  (case q65=>k_is)
  (case q66=>k_is)
  (case q67=>k_is)
  (case q68=>k_is)
  (case q69=>k_is)
  (case q6a=>k_is)
  (case q6b=>k_is)
  (case q6c=>k_is)
  (case q6d=>k_is)
  (case q6e=>k_is)
  (case q6f=>k_is)
  (case q6g=>k_is)
  (case q6h=>k_is)
  (case q6i=>k_is)
  (case q6j=>k_is)
  (case q6k=>k_is)
  (case q6l=>k_is)
  (case q6m=>k_is)
  (case q6n=>k_is)
  (case q6o=>k_is)
  (case q6p=>k_is)
  (case q6q=>k_is)
  (case q6r=>k_is)
  (case q6s=>k_is)
  (case q6t=>k_is)
  (case q6u=>k_is)
  (case q6v=>k_is)
  (case q6w=>k_is)
  (case q6x=>k_is)
  (case q6y=>k_is)
  (case q6z=>k_is)
  (case q70=>k_is)
  (case q71=>k_is)
  (case q72=>k_is)
  (case q73=>k_is)
  (case q74=>k_is)
  (case q75=>k_is)
  (case q76=>k_is)
  (case q77=>k_is)
  (case q78=>k_is)
  (case q79=>k_is)
  (case q7a=>k_is)
  (case q7b=>k_is)
  (case q7c=>k_is)
  (case q7d=>k_is)
  (case q7e=>k_is)
  (case q7f=>k_is)
  (case q7g=>k_is)
  (case q7h=>k_is)
  (case q7i=>k_is)
  (case q7j=>k_is)
  (case q7k=>k_is)
  (case q7l=>k_is)
  (case q7m=>k_is)
  (case q7n=>k_is)
  (case q7o=>k_is)
  (case q7p=>k_is)
  (case q7q=>k_is)
  (case q7r=>k_is)
  (case q7s=>k_is)
  (case q7t=>k_is)
  (case q7u=>k_is)
  (case q7v=>kts_exm)
  (case q7w=>kit_is)
  (case q7x=>kit_is)
