import PyProof.Rows.All
import Wide.All
import OpenK.AllK
import Wide.FinOn
import Lean
import PyProof.EqAt
import PyProof.EqKinds
import PyProof.TupleCall
import PyProof.SetScanFacts
import PyProof.Rows.SetFrom
import PyProof.Rows.SortWalk
import PyProof.CollectWalk
import PyProof.DictWalks
import PySem.Challenge.RW_holdback_k33_lowest_free
set_option Elab.async false
set_option linter.all false
set_option maxRecDepth 100000
namespace L2
open PySem PySem.Spec PyProof.Rows
abbrev Key:=Sum Int Str
def zyv:Key->Value->Bool
 | .inl k,v=>Value.isInt k v
 | .inr x,v=>Value.isStrOf x v
def keyH(w:World):Key->Int
 | .inl k=>hashInt k
 | .inr x=>hashStr w x
theorem zds:∀ {k:Key} {v:Value},zyv k v=true->(∃ i t,k=Sum.inl i/\v=Value.int i t)\/(∃ x t,k=Sum.inr x/\v=Value.str x t)
  | .inl i,v,h=>by
    obtain⟨t,e⟩:=Value.isInt_shape (k:=i) (v:=v) h
    exact .inl ⟨i,t,rfl,e⟩
  | .inr x,v,h=>by
    obtain⟨t,e⟩:=Value.isStrOf_shape (x:=x) (v:=v) h
    exact .inr ⟨x,t,rfl,e⟩
theorem zzr(i:Int)(t:Tok):zyv (.inl i) (.int i t)=true:=by simp[zyv,Value.isInt]
theorem zzs(x:Str)(t:Tok):zyv (.inr x) (.str x t)=true:=by simp[zyv,Value.isStrOf]
theorem zaf4(a b:Int):decide ((Sum.inl a:Key)=Sum.inl b)=(a == b):=by
 by_cases e:a=b
 ·subst e;simp
 ·have h:¬ (Sum.inl a:Key)=Sum.inl b:=λq=>e (Sum.inl.inj q)
  rw[decide_eq_false h]
  exact(beq_eq_false_iff_ne.mpr e).symm
theorem zaf5(a b:Str):decide ((Sum.inr a:Key)=Sum.inr b)=decide (a=b):=by
 by_cases e:a=b
 ·subst e;simp
 ·have h:¬ (Sum.inr a:Key)=Sum.inr b:=λq=>e (Sum.inr.inj q)
  rw[decide_eq_false h,decide_eq_false e]
theorem zaf6(a:Int)(b:Str):decide ((Sum.inl a:Key)=Sum.inr b)=false:=decide_eq_false (λq=>nomatch q)
theorem zaf7(a:Str)(b:Int):decide ((Sum.inr a:Key)=Sum.inl b)=false:=decide_eq_false (λq=>nomatch q)
def zdt (prog:Program) (w:World):PySem.KeyKind prog w Key where
  is:=zyv
  hash:=keyH w
  inj := λv a b ha hb=>by
    rcases zds ha with⟨i,t,rfl,rfl⟩ | ⟨x,t,rfl,rfl⟩
    · rcases zds hb with⟨j,u,rfl,e⟩ | ⟨y,u,rfl,e⟩
      ·injection e with e1 _;rw[e1]
      ·exact nomatch e
    · rcases zds hb with⟨j,u,rfl,e⟩ | ⟨y,u,rfl,e⟩
      ·exact nomatch e
      ·injection e with e1 _;rw[e1]
  byValue:=λk v h=>by
    rcases zds h with⟨i,t,rfl,rfl⟩ | ⟨x,t,rfl,rfl⟩<;>rfl
  pyHash:=λhv h=>by
    rcases zds hv with⟨i,t,rfl,rfl⟩ | ⟨x,t,rfl,rfl⟩
    ·exact wpAny_pyHash_int h
    ·exact wpAny_pyHash_str h
  eqBool:=λhu hv h=>by
    rcases zds hu with⟨i,t,rfl,rfl⟩ | ⟨x,t,rfl,rfl⟩
    · rcases zds hv with⟨j,u,rfl,rfl⟩ | ⟨y,u,rfl,rfl⟩
      ·rw[zaf4]at h;exact wpAny_eqBool_int h
      ·rw[zaf6]at h;exact SeqAt.EqAt.int_str i t y u _ _ _ _ h
    · rcases zds hv with⟨j,u,rfl,rfl⟩ | ⟨y,u,rfl,rfl⟩
      ·rw[zaf7]at h;exact SeqAt.EqAt.str_int x t j u _ _ _ _ h
      ·rw[zaf5]at h;exact wpAny_eqBool_str h
  «strs» :=λk x t v h=>by
    rcases zds h with⟨i,u,rfl,e⟩ | ⟨y,u,rfl,e⟩
    ·exact nomatch e
    · injection e with e1 _
      subst e1
      cases v<;>rfl
theorem zwl(prog:Program)(w:World)(i:Int)(t:Tok):(zdt prog w).is (.inl i) (.int i t)=true:=zzr i t
theorem zwm(prog:Program)(w:World)(x:Str)(t:Tok):(zdt prog w).is (.inr x) (.str x t)=true:=zzs x t
end L2
namespace L2
open PySem PySem.Spec PyProof.Rows
inductive V where
 | non | bl (b:Bool) | int (i:Int) | str (x:Str) | byt (b:Array UInt8) | flt (b:UInt64) | ref (a:Addr) | ty (n:String)
 deriving DecidableEq
def RelV:V->Value->Prop
 | .non,u=>u=Value.none
 | .bl b,u=>u=Value.bool b
 | .int i,u=>∃ t,u=Value.int i t
 | .str x,u=>∃ t,u=Value.str x t
 | .byt b,u=>∃ t,u=Value.bytes b t
 | .flt b,u=>∃ t,u=Value.float b t
 | .ref a,u=>u=Value.ref a
 | .ty n,u=>u=Value.type n
abbrev Vals:List V->List Value->Prop:=Paired RelV
theorem Vals.length{xs:List V}{us:List Value}(r:Vals xs us):xs.length=us.length:=Paired.length r
theorem Vals.get:∀ {xs:List V} {us:List Value} {i:Nat} {x:V},Vals xs us->xs[i]? =some x->∃ u,us[i]? =some u/\RelV x u
  | _,_,_,_,.nil,e=>by simp at e
  | _,_,0,_,.cons r _,e=>by simp at e;subst e;exact⟨_,rfl,r⟩
  | _,_,i+1,x,.cons _ t,e=>by
    obtain⟨u,h1,h2⟩:=Vals.get (i:=i) (x:=x) t (by simpa using e)
    exact⟨u,by simpa using h1,h2⟩
theorem Vals.set{x:V}{u:Value}(r:RelV x u):∀ {xs:List V} {us:List Value} (i:Nat),Vals xs us->Vals (xs.set i x) (us.set i u)
 | _,_,_,.nil=>.nil
 | _,_,0,.cons _ t=>.cons r t
 | _,_,i+1,.cons q t=>.cons q (Vals.set r i t)
theorem Vals.append:∀ {xs ys:List V} {us ws:List Value},Vals xs us->Vals ys ws->Vals (xs++ys) (us++ws)
 | _,_,_,_,.nil,s=>s
 | _,_,_,_,.cons r t,s=>.cons r (Vals.append t s)
theorem Vals.take:∀ {xs:List V} {us:List Value} (n:Nat),Vals xs us->Vals (xs.take n) (us.take n)
 | _,_,0,_=>.nil
 | _,_,_+1,.nil=>.nil
 | _,_,n+1,.cons r t=>.cons r (Vals.take n t)
theorem Vals.drop:∀ {xs:List V} {us:List Value} (n:Nat),Vals xs us->Vals (xs.drop n) (us.drop n)
 | _,_,0,r=>r
 | _,_,_+1,.nil=>.nil
 | _,_,n+1,.cons _ t=>Vals.drop n t
theorem Vals.none_of:∀ {xs:List V} {us:List Value} {i:Nat},Vals xs us->xs[i]? =none->us[i]? =none:=λ{xs us i} r e=>by
 have h1:=r.length
 have h2:xs.length<=i:=List.getElem?_eq_none_iff.mp e
 exact List.getElem?_eq_none_iff.mpr (by omega)
def RelO:Option V->Option Value->Prop
 | some v,some u=>RelV v u
 | none,none=>True
 | _,_=>False
def KV{κ :Type}:List (κ × V)->List (κ × Value)->Prop:=Paired λ(p: κ × V) (q: κ × Value)=>p.1=q.1/\RelV p.2 q.2
def kV:Key->V
 | .inl i=>.int i
 | .inr x=>.str x
inductive HO where
  | lst (xs:List V)
  | tup (xs:List V)
  | dK (kvs:List (Key × V)) | dT (kvs:List (List Key × V))
  | set (S:Int->Bool) (n:Nat)
  | ins (C dx:Addr) (fs:List (Str × V))
  | own (x:Addr)
  | xd (fs:List (Str × V))
  | met (f x:Addr)
  | rng (lo hi:Int)
  | frz (o:Obj) (u:HO)
  | tbl (ps:Array Value)
  | ext (φ :Heap->Prop)
abbrev Hp:=Addr->Option HO
def upd(H:Hp)(a:Addr)(o:HO):Hp:=λb=>if b=a then some o else H b
theorem zac{H:Hp}{a:Addr}{o:HO}:upd H a o a=some o:=by unfold upd;rw[if_pos rfl]
theorem zag{H:Hp}{a b:Addr}{o:HO}(h:b≠a):upd H a o b=H b:=by unfold upd;rw[if_neg h]
theorem zhx{H:Hp}{a:Addr}{o u:HO}:upd (upd H a o) a u=upd H a u:=by
 funext b;unfold upd;split<;>rfl
theorem zbe{H:Hp}{a b:Addr}{o u:HO}(h:H a=some o)(h':H b=some u)(d:o≠u):a≠b:=by
 intro e;subst e;rw[h]at h';exact d (Option.some.inj h')
theorem zai{H:Hp}{a b:Addr}{o:HO}(h:H a=some o)(h':H b=none):a≠b:=by
 intro e;subst e;rw[h]at h';cases h'
section
variable(P:Program)(w:World)
def ObjOk(H:Hp)(h:Heap)(a:Addr):HO->Prop
 | .lst xs=>xs.length<=sizeLine/\∃ (its:List Value) (n:Nat),Vals xs its/\h.get? a=some { cls:=.type "list",data:=.seq its.toArray n }
 | .tup xs=>xs.length<=sizeLine/\∃ its:List Value,Vals xs its/\IsTup h a its.toArray
 | .dK kvs=>kvs.length<=sizeLine/\(a == sysModules)=false/\∃ vs,KV kvs vs/\h.DictOf (zdt P w) a vs
 | .dT kvs=>kvs.length<=sizeLine/\(a == sysModules)=false/\∃ xs:List (List Key × Addr × Value),
   Paired (λ(p:List Key × V) (q:List Key × Addr × Value)=>p.1=q.1/\H q.2.1=some (.tup (p.1.map kV))/\RelV p.2 q.2.2) kvs xs ∧
   ∃ o es ep,h.get? a=some o/\o.ExactDict/\o.data=.dict es ep/\es.toList=xs.map (entryOfKey (tupleKind (zdt P w)))/\(xs.map (·.1)).Nodup
 | .set S n=>h.SetOf (intKind P w) a S n
 | .ins C dx fs=>H dx=some (.own a)/\fs.length<=1000/\dx≠a/\h.get? a=some (PySem.W.instObj C dx) ∧
   ∃ mA,h.Ns1 dx mA/\(∀ f,RelO (fs.lookup f) (mA f))/\PySem.Within mA (fs.map (·.1))
 | .own _=>∃ o,h.get? a=some o
 | .xd fs=>∃ mA,h.Ns1 a mA/\∀ f,RelO (fs.lookup f) (mA f)
 | .rng lo hi=>∃ t u v,h.get? a=some { cls:=.type "range",data:=.fields #[.int lo t,.int hi u,.int 1 v] }
 | .frz o u=>h.get? a=some o/\ObjOk H h a u
 | .tbl ps=>h.get? a=some { cls:=.none,data:=.fields ps }
 | .met f x=>h.get? a=some (PySem.W.methodObj (.ref f) (.ref x))
 | .ext φ => φ h/\(∃ o,h.get? a=some o)/\∀ h1 h2:Heap,φ h1->(∀ o,h1.get? a=some o->h2.get? a=some o)-> φ h2
def HOk(H:Hp)(h:Heap):Prop:=∀ a o,H a=some o->ObjOk P w H h a o
end
section
variable{P:Program}{w:World}{H H':Hp}{h h':Heap}{a:Addr}{o:HO}
theorem ObjOk.lt(x:ObjOk P w H h a o):a<h.objs.size:=by
 cases o with
 | lst xs=>obtain⟨_,_,_,_,e⟩:=x;exact Heap.lt_size e
 | tup xs=>obtain⟨_,_,_,p⟩:=x;exact p.lt
 | dK kvs=>obtain⟨_,_,_,_,o,_,_,e,_⟩:=x;exact Heap.lt_size e
 | dT kvs=>obtain⟨_,_,_,_,o,_,_,e,_⟩:=x;exact Heap.lt_size e
 | set S n=>obtain⟨o,_,_,_,e,_⟩:=x;exact Heap.lt_size e
 | ins C dx fs=>obtain⟨_,_,_,e,_⟩:=x;exact Heap.lt_size e
 | own y=>obtain⟨_,e⟩:=x;exact Heap.lt_size e
 | xd fs=>obtain⟨_,⟨_,_,_,e,_⟩,_⟩:=x;exact Heap.lt_size e
 | rng lo hi=>obtain⟨_,_,_,e⟩:=x;exact Heap.lt_size e
 | frz ob u=>obtain⟨e,_⟩:=x;exact Heap.lt_size e
 | tbl ps=>exact Heap.lt_size (show h.get? a=some _ from x)
 | met f y=>exact Heap.lt_size (show h.get? a=some _ from x)
 | ext φ =>obtain⟨_,⟨_,e⟩,_⟩:=x;exact Heap.lt_size e
theorem Paired.mapP{α β :Type}{F G: α -> β ->Prop}:∀ {l₁:List α} {l₂:List β},Paired F l₁ l₂->(∀ a b,F a b->G a b)->Paired G l₁ l₂
 | _,_,.nil,_=>.nil
 | _,_,.cons r t,f=>.cons (f _ _ r) (Paired.mapP t f)
theorem ObjOk.stay(x:ObjOk P w H h a o)(k:∀ b u,(b=a\/H b=some (.own a))->h.get? b=some u->h'.get? b=some u)
    (ho:∀ b,H b=some (.own a)->H' b=some (.own a)) (ht:∀ b xs,H b=some (.tup xs)->H' b=some (.tup xs)):ObjOk P w H' h' a o:=by
  induction o with
  | lst xs=>obtain⟨z,its,n,r,e⟩:=x;exact⟨z,its,n,r,k _ _ (.inl rfl) e⟩
  | tup xs=>obtain⟨z,its,r,ob,e,c⟩:=x;exact⟨z,its,r,ob,k _ _ (.inl rfl) e,c⟩
  | dK kvs=>obtain⟨z,y,vs,r,ob,es,ep,e,c⟩:=x;exact⟨z,y,vs,r,ob,es,ep,k _ _ (.inl rfl) e,c⟩
  | dT kvs =>
    obtain⟨z,y,xs,r,ob,es,ep,e,c⟩:=x
    exact⟨z,y,xs,Paired.mapP r λp q z=>⟨z.1,ht _ _ z.2.1,z.2.2⟩,ob,es,ep,k _ _ (.inl rfl) e,c⟩
  | set S n=>obtain⟨ob,es,ep,t,e,c⟩:=x;exact⟨ob,es,ep,t,k _ _ (.inl rfl) e,c⟩
  | ins C dx fs =>
    obtain⟨d,z,ne,e,mA,⟨od,es,ep,e2,c⟩,r⟩:=x
    exact⟨ho _ d,z,ne,k _ _ (.inl rfl) e,mA,⟨od,es,ep,k _ _ (.inr d) e2,c⟩,r⟩
  | own y=>obtain⟨ob,e⟩:=x;exact⟨ob,k _ _ (.inl rfl) e⟩
  | xd fs=>obtain⟨mA,⟨od,es,ep,e,c⟩,r⟩:=x;exact⟨mA,⟨od,es,ep,k _ _ (.inl rfl) e,c⟩,r⟩
  | rng lo hi=>obtain⟨t,u,v,e⟩:=x;exact⟨t,u,v,k _ _ (.inl rfl) e⟩
  | frz ob u ih=>obtain⟨e,q⟩:=x;exact⟨k _ _ (.inl rfl) e,ih q⟩
  | tbl ps =>
    have e:h.get? a=some { cls:=.none,data:=.fields ps }:=x
    show h'.get? a=some { cls:=.none,data:=.fields ps }
    exact k a _ (.inl rfl) e
  | met f y =>
    have e:h.get? a=some (PySem.W.methodObj (.ref f) (.ref y)):=x
    show h'.get? a=some (PySem.W.methodObj (.ref f) (.ref y))
    exact k a _ (.inl rfl) e
  | ext φ =>obtain⟨p,⟨o,e⟩,st⟩:=x;exact⟨st _ _ p λo q=>k _ _ (.inl rfl) q,⟨o,k _ _ (.inl rfl) e⟩,st⟩
theorem HOk.lt(x:HOk P w H h)(e:H a=some o):a<h.objs.size:=(x a o e).lt
theorem HOk.fresh(x:HOk P w H h)(e:h.objs.size<=a):H a=none:=by
 cases q:H a with
 | none=>rfl
 | some u=>exact absurd (Nat.lt_of_lt_of_le (x.lt q) e) (Nat.lt_irrefl _)
theorem HOk.kept(x:HOk P w H h)(k:∀ b u,h.get? b=some u->h'.get? b=some u):HOk P w H h':=λa o e =>
 (x a o e).stay (λb u _ q=>k b u q) (λ_ q=>q) λ_ _ q=>q
theorem HOk.laid(x:HOk P w H h)(k:∀ b u,h.get? b=some u->h'.get? b=some u)(hp:h.objs.size<=a)(new:ObjOk P w (upd H a o) h' a o):HOk P w (upd H a o) h':=λb u e=>by
 have hn:=x.fresh hp
 by_cases hb:b=a
 ·subst hb;rw[zac]at e;cases e;exact new
 ·rw[zag hb]at e
  exact(x b u e).stay (λc v _ q=>k c v q) (λc q=>by rw[zag (zai q hn)];exact q) λc xs q=>by rw[zag (zai q hn)];exact q
end
def Rd(H:Hp)(a:Addr)(u:HO):Prop:=H a=some u\/∃ o,H a=some (.frz o u)
theorem Rd.of{H:Hp}{a:Addr}{u:HO}(h:H a=some u):Rd H a u:=.inl h
theorem Rd.ok{P:Program}{w:World}{H:Hp}{h:Heap}{a:Addr}{u:HO}(r:Rd H a u)(x:HOk P w H h):ObjOk P w H h a u:=by
 rcases r with r | ⟨o,r⟩
 ·exact x a u r
 ·obtain⟨_,q⟩:=x a _ r
  exact q
def Mut:Option HO->Prop
 | some (.lst _)=>True
 | some (.dK _)=>True
 | some (.dT _)=>True
 | some (.set _ _)=>True
 | some (.ins _ _ _)=>True
 | some (.ext _)=>True
 | _=>False
section
variable{P:Program}{w:World}{H:Hp}{h h':Heap}{x e:Addr}{o':HO}
theorem HOk.write (ok:HOk P w H h) (mu:Mut (H x)) (he:e=x\/H e=some (.own x)) (k:∀ b u,b≠e->h.get? b=some u->h'.get? b=some u) (heo:∃ u,h'.get? e=some u)
    (new:ObjOk P w (upd H x o') h' x o'):HOk P w (upd H x o') h':=λb u q=>by
  have nown:∀ c y,H c=some (.own y)->c≠x:=λc y r z=>by subst z;rw[r]at mu;exact mu
  have ntup:∀ c xs,H c=some (.tup xs)->c≠x:=λc xs r z=>by subst z;rw[r]at mu;exact mu
  by_cases hb:b=x
  ·subst hb;rw[zac]at q;cases q;exact new
  · rw [zag hb]at q
    by_cases hbe:b=e
    · have q':H b=some (.own x):=by
        rcases he with z | z
        ·exact absurd (hbe.trans z) hb
        ·rw[hbe];exact z
      rw[q]at q';cases q'
      obtain⟨v,hv⟩:=heo
      exact⟨v,by rw[hbe];exact hv⟩
    · refine(ok b u q).stay (λc v hc r=>k c v ?_ r) (λc r=>by rw[zag (nown c b r)];exact r) λc xs r=>by rw[zag (ntup c xs r)];exact r
      rcases hc with rfl | hc
      ·exact hbe
      · rintro rfl
        rcases he with z | z
        ·exact nown c b hc z
        ·rw[hc]at z;cases z;exact hb rfl
end
structure Un(fs ex:List Addr)(H H':Hp)(h h':Heap):Prop where
 keep:∀ b o,h.get? b=some o->H b=none->b∉fs->b∉ex->h'.get? b=some o
 slot:∀ b o,h.get? b=some o->H b=none->b∈fs->b∉ex->∃ sl,h'.get? b=some { o with slots:=sl }
 free:∀ b o,h.get? b=some o->H b=none->b∉ex->H' b=none
 there:∀ b o,h.get? b=some o->b∉ex->∃ o',h'.get? b=some o'
 tups:∀ b xs,H b=some (.tup xs)->H' b=some (.tup xs)
 frzs:∀ b o u,H b=some (.frz o u)->H' b=some (.frz o u)
 tbls:∀ b ps,H b=some (.tbl ps)->∃ more,H' b=some (.tbl (ps++more))
section
variable{fs fs' ex ex':List Addr}{H H1 H2:Hp}{h h1 h2 h':Heap}{a x e:Addr}{o:HO}
theorem Un.any(u:Un fs ex H H1 h h1){b:Addr}{ob:Obj}(q:h.get? b=some ob)(n:H b=none)(hx:b∉ex):∃ sl,h1.get? b=some { ob with slots:=sl }:=by
 by_cases hb:b∈fs
 ·exact u.slot b ob q n hb hx
 ·exact⟨ob.slots,u.keep b ob q n hb hx⟩
theorem Un.trans(a:Un fs ex H H1 h h1)(b:Un fs ex H1 H2 h1 h2):Un fs ex H H2 h h2 where
 keep:=λc ob q n hc hx=>b.keep c ob (a.keep c ob q n hc hx) (a.free c ob q n hx) hc hx
 slot:=λc ob q n hc hx=>by
  obtain⟨sl,e1⟩:=a.slot c ob q n hc hx
  obtain⟨sl',e2⟩:=b.slot c _ e1 (a.free c ob q n hx) hc hx
  exact⟨sl',e2⟩
 free:=λc ob q n hx=>by
  obtain⟨o',e1⟩:=a.there c ob q hx
  exact b.free c o' e1 (a.free c ob q n hx) hx
 there:=λc ob q hx=>by
  obtain⟨o',e1⟩:=a.there c ob q hx
  exact b.there c o' e1 hx
 tups:=λc xs q=>b.tups c xs (a.tups c xs q)
 frzs:=λc ob xs q=>b.frzs c ob xs (a.frzs c ob xs q)
 tbls:=λc ps q=>by
  obtain⟨m1,e1⟩:=a.tbls c ps q
  obtain⟨m2,e2⟩:=b.tbls c _ e1
  exact⟨m1++m2,by rw[e2,Array.append_assoc]⟩
theorem Un.kept(k:∀ b u,h.get? b=some u->h'.get? b=some u):Un fs ex H H h h' :=
 ⟨λb ob q _ _ _=>k b ob q,λb ob q _ _ _=>⟨ob.slots,k b ob q⟩,λ_ _ _ n _=>n,λb ob q _=>⟨ob,k b ob q⟩,λ_ _ q=>q,λ_ _ _ q=>q,λ_ ps q=>⟨#[],by rw[q];simp⟩⟩
theorem Un.refl:Un fs ex H H h h:=Un.kept λ_ _ q=>q
theorem Un.laid(k:∀ b u,h.get? b=some u->h'.get? b=some u)(hp:h.objs.size<=a)(hn:H a=none):Un fs ex H (upd H a o) h h' where
 keep:=λb u q _ _ _=>k b u q
 slot:=λb u q _ _ _=>⟨u.slots,k b u q⟩
 free:=λb u q n _=>by rw[zag (Nat.ne_of_lt (Nat.lt_of_lt_of_le (Heap.lt_size q) hp))];exact n
 there:=λb u q _=>⟨u,k b u q⟩
 tups:=λb xs q=>by rw[zag (zai q hn)];exact q
 frzs:=λb u xs q=>by rw[zag (zai q hn)];exact q
 tbls:=λb ps q=>⟨#[],by rw[zag (zai q hn),q];simp⟩
theorem Un.write(mu:Mut (H x))(he:e=x\/H e=some (.own x))(k:∀ b u,b≠e->h.get? b=some u->h'.get? b=some u)(heo:∃ u,h'.get? e=some u):Un fs ex H (upd H x o) h h':=by
 have hx:∀ b,H b=none->b≠x:=λb n z=>by subst z;rw[n]at mu;exact mu
 have hb:∀ b,H b=none->b≠e:=λb n z=>by
  subst z
  rcases he with r | r
  ·exact hx b n r
  ·rw[n]at r;cases r
 have hm:∀ b u,H b=some u->¬ Mut (some u)->b≠x:=λb u q nm z=>by subst z;rw[q]at mu;exact nm mu
 refine⟨λb u q n _ _=>k b u (hb b n) q,λb u q n _ _=>⟨u.slots,k b u (hb b n) q⟩,λb u q n _=>by rw[zag (hx b n)];exact n,λb u q _=> ?_,
  λb xs q=>by rw[zag (hm b _ q λz=>z)];exact q,λb u xs q=>by rw[zag (hm b _ q λz=>z)];exact q,λb ps q=>⟨#[],by rw[zag (hm b _ q λz=>z),q];simp⟩⟩
 by_cases hbe:b=e
 ·subst hbe;exact heo
 ·exact⟨u,k b u hbe q⟩
theorem Un.mono(u:Un fs ex H H1 h h1)(hs:∀ b∈fs,b∈fs')(hx:∀ b∈ex,b∈ex'):Un fs' ex' H H1 h h1 :=
 ⟨λb ob q n hb he=>u.keep b ob q n (λz=>hb (hs b z)) λz=>he (hx b z),λ_ _ q n _ he=>u.any q n λz=>he (hx _ z),λb ob q n he=>u.free b ob q n λz=>he (hx b z),λb ob q he=>u.there b ob q λz=>he (hx b z),u.tups,u.frzs,u.tbls⟩
end
def trk(h:Heap)(H:Hp):List Addr:=(List.range h.objs.size).filter λa=>(H a).isSome
def hidT(h:Heap)(H:Hp):Heap:=PySem.W.hideAll h (trk h H)
theorem zzt(h:Heap)(H:Hp):(hidT h H).objs.size=h.objs.size:=PySem.W.hideAll_size _ _
theorem zabq{h:Heap}{H:Hp}{b:Addr}{o:Obj}(e:h.get? b=some o)(n:H b=none):(hidT h H).get? b=some o :=
 PySem.W.hideAll_get _ e λhm=>by
  have q:(H b).isSome=true:=(List.mem_filter.mp hm).2
  rw[n]at q;simp at q
theorem zadw{h:Heap}{H:Hp}{b:Addr}{o:Obj}(e:(hidT h H).get? b=some o):h.get? b=some o/\H b=none:=by
  have e':h.get? b=some o:=PySem.W.of_hideAll (trk h H) e
  refine⟨e',?_⟩
  cases q:H b with
  | none=>rfl
  | some x =>
    have hm:b∈trk h H:=List.mem_filter.mpr ⟨List.mem_range.mpr (Heap.lt_size e'),by simp[q]⟩
    have z:(hidT h H).get? b=none:=PySem.W.hideAll_none (trk h H) hm
    rw[z]at e;cases e
def zadx(g h:Heap)(L:Addr):List (Addr × Obj):=(List.range h.objs.size).filterMap λa=>if a=L\/(g.get? a).isSome=true then none else(h.get? a).map λo=>(a,o)
def rest(g h:Heap)(L d:Addr):List (Addr × Obj):=(zadx g h L).filter λp=>decide (p.1≠d)
end L2
namespace L2
open PySem PySem.Spec PyProof.Rows
structure Mod(K:PySem.W.Frag)(mg:Str->Option Value)(base:Heap):Prop where
 kin:K.In base
 glob:base.Ns mainGlobals mg
 blt:∃ mb,base.Ns builtinsNs mb/\∀ x:Str,x≠"__name__"->mb x=bootBuiltins x
 nolimit:base.NoLimit
structure Cx where
 prog:Program
 w:World
 K:PySem.W.Frag
 mg:Str->Option Value
 base:Heap
 A:Around
 N:List Str
 s₀:Shared
 H₀:Hp
 env:Env
 outer:List Env
 stack:List Env
 ex:List Addr
 fn:Str->Bool
 calm:Bool
 pn:List (Addr × Obj)
 xe:Value->Shared->Prop
def frs(l:List Env):List Addr:=l.filterMap (·.frame)
abbrev Cx.fs(X:Cx):List Addr:=frs X.outer
def Vis(sc:Scope)(x:Str):Prop:=sc.names.lookup x=some .local\/sc.names.lookup x=some .cell\/sc.names.lookup x=some .free
def Loc(sc:Scope)(x:Str):Prop:=sc.names.lookup x=some .local\/sc.names.lookup x=some .cell
def Look(env:Env)(h:Heap)(m:Str->Option Value)(x:Str)(u:Value):Prop :=
 (env.kindOf x=some .local/\m x=some u)\/((env.kindOf x=some .cell\/env.kindOf x=some .free)/\∃ c,env.cells.lookup x=some c/\h.IsCell c (some u))
structure Cx.Ok(X:Cx):Prop where
 mod:Mod X.K X.mg X.base
 kind:X.env.scope.kind=.function
 glob:X.env.globals=mainGlobals
 blt:X.env.builtins=builtinsNs
 above:X.s₀.heap.objs.size<=X.env.locals
 inj:∀ x y c,X.env.cells.lookup x=some c->X.env.cells.lookup y=some c->x=y
 has:∀ x,(X.env.kindOf x=some .cell\/X.env.kindOf x=some .free)->∃ c,X.env.cells.lookup x=some c
 cab:∀ x c,X.fn x=true->X.env.cells.lookup x=some c->X.s₀.heap.objs.size<=c
 hd:X.calm=true->X.A.handled=none
 frames:X.A.frames=some X.stack
 stk:X.stack=X.outer\/(X.stack=X.env::X.outer/\X.env.frame=some X.env.locals)
 exf:∀ b∈X.ex,b≠X.env.locals/\∀ x c,X.env.cells.lookup x=some c->c≠b
 bs:∀ b o,X.base.get? b=some o->X.s₀.heap.get? b=some o/\X.H₀ b=none
 bsz:X.base.objs.size<=X.s₀.heap.objs.size
 noex:∀ b o,X.base.get? b=some o->b∉X.ex
 exfs:∀ b∈X.ex,b∉X.fs
 funs:X.s₀.heap.FunFrames X.base X.outer
 frf:∀ b∈X.fs,X.H₀ b=none
structure Inv(X:Cx)(pins:List (Addr × Obj))(σ:List (Option V))(H:Hp)(s:Shared):Prop where
 ok:X.Ok
 os:s.os=X.s₀.os
 bare:AllBare s.gens
 base:Un X.fs X.ex X.H₀ H X.s₀.heap s.heap
 loc:∃ m,s.heap.Ns X.env.locals m/\∀ (i:Nat) (x:Str) (v:V),X.N[i]? =some x->σ[i]? =some (some v)->Vis X.env.scope x->∃ u,RelV v u/\Look X.env s.heap m x u
 cell:∀ x c,X.env.cells.lookup x=some c->∃ v,s.heap.IsCell c v
 free:H X.env.locals=none
 freeC:∀ x c,X.env.cells.lookup x=some c->H c=none
 pin:∀ p∈X.pn++pins,s.heap.get? p.1=some p.2/\H p.1=none/\p.1≠X.env.locals/\p.1∉X.fs/\∀ v,p.2.data≠.cell v
 hok:HOk X.prog X.w H s.heap
 len:σ.length=X.N.length
section
variable{X:Cx}{pins:List (Addr × Obj)}{σ:List (Option V)}{H H':Hp}{s:Shared}{h':Heap}
theorem Cx.Ok.nofr(ok:X.Ok){b:Addr}{o:Obj}(e:X.base.get? b=some o):b∉X.fs:=λhb=>by
 have:=(ok.funs.mem hb).1
 rw[e]at this;cases this
theorem Inv.bs(I:Inv X pins σ H s):∀ b o,X.base.get? b=some o->s.heap.get? b=some o/\H b=none:=λb o e =>
 ⟨I.base.keep b o (I.ok.bs b o e).1 (I.ok.bs b o e).2 (I.ok.nofr e) (I.ok.noex b o e),I.base.free b o (I.ok.bs b o e).1 (I.ok.bs b o e).2 (I.ok.noex b o e)⟩
theorem Inv.bk(I:Inv X pins σ H s):∀ b o,X.base.get? b=some o->s.heap.get? b=some o:=λb o e=>(I.bs b o e).1
theorem Inv.mod(I:Inv X pins σ H s):Mod X.K X.mg X.base:=I.ok.mod
theorem Inv.kIn(I:Inv X pins σ H s):X.K.In s.heap:=I.ok.mod.kin.keeps I.bk
theorem Inv.nolimit(I:Inv X pins σ H s):s.heap.NoLimit:=I.ok.mod.nolimit.keeps I.bk
theorem Inv.fr(I:Inv X pins σ H s):∃ m,Fr X.base X.env.locals s.heap m :=
 let ⟨m,hn,_⟩:=I.loc
 ⟨m,hn,I.bk,Nat.le_trans I.ok.bsz I.ok.above⟩
theorem Inv.lt(I:Inv X pins σ H s):X.env.locals<s.heap.objs.size:=let ⟨_,hn,_⟩:=I.loc;hn.lt
theorem Inv.sz(I:Inv X pins σ H s):X.s₀.heap.objs.size<=s.heap.objs.size:=Nat.le_trans I.ok.above (Nat.le_of_lt I.lt)
theorem Inv.nofs(I:Inv X pins σ H s){a:Addr}(h:s.heap.objs.size<=a):a∉X.fs:=λhb=>by
 obtain⟨_,o,ho,_⟩:=I.ok.funs.mem hb
 exact absurd (Nat.lt_of_lt_of_le (Heap.lt_size ho) (Nat.le_trans I.sz h)) (Nat.lt_irrefl _)
theorem Inv.cne(I:Inv X pins σ H s):∀ x c,X.env.cells.lookup x=some c->c≠X.env.locals:=λx c e z=>by
 obtain⟨v,o,ho,hd⟩:=I.cell x c e
 obtain⟨m,⟨o',es,ep,ho',hd',_⟩,_⟩:=I.loc
 rw[z,ho']at ho;cases ho;rw[hd']at hd;cases hd
theorem Inv.funs(I:Inv X pins σ H s):s.heap.FunFrames X.base X.outer:=by
  have all:∀ (l:List Env),(∀ b∈frs l,b∈X.fs)->X.s₀.heap.FunFrames X.base l->s.heap.FunFrames X.base l:=by
    intro l
    induction l with
    | nil=>intro _ _;trivial
    | cons env r ih =>
      intro hs hl
      obtain⟨hk,⟨L,o,hf,hn,ho,hd⟩,hr⟩:=hl
      have hL:L∈X.fs:=hs L (by unfold frs;rw[List.filterMap_cons,hf];exact List.mem_cons_self)
      obtain⟨sl,e⟩:=I.base.slot L o ho (I.ok.frf L hL) hL λz=>I.ok.exfs L z hL
      exact⟨hk,⟨L,_,hf,hn,e,hd⟩,ih (λb hb=>hs b (by unfold frs;rw[List.filterMap_cons,hf];exact List.mem_cons_of_mem _ hb)) hr⟩
  exact all X.outer (λ_ hb=>hb) I.ok.funs
theorem Inv.stack(I:Inv X pins σ H s):s.heap.FunFrames X.base X.stack:=by
 rcases I.ok.stk with e | ⟨e,hf⟩
 ·rw[e];exact I.funs
 ·rw[e]
  obtain⟨m,hn,_⟩:=I.loc
  refine .cons (by rw[I.ok.kind];decide) hf hn ?_ I.funs
  exact Heap.get?_none_of_le (Nat.le_trans I.ok.bsz I.ok.above)
theorem Inv.stkSub(I:Inv X pins σ H s):∀ b∈frs X.stack,b∈X.env.locals::X.fs:=λb hb=>by
 rcases I.ok.stk with e | ⟨e,hf⟩
 ·rw[e]at hb;exact List.mem_cons_of_mem _ hb
 ·rw[e]at hb
  unfold frs at hb
  rw[List.filterMap_cons,hf]at hb
  exact hb
theorem Inv.stkFree(I:Inv X pins σ H s):∀ b∈frs X.stack,H b=none:=λb hb=>by
 rcases List.mem_cons.mp (I.stkSub b hb)with e | hb
 ·rw[e];exact I.free
 ·obtain⟨_,o,ho,_⟩:=I.ok.funs.mem hb
  exact I.base.free b o ho (I.ok.frf b hb) λz=>I.ok.exfs b z hb
theorem Inv.step{g':Array GenState}{t':Nat}{d':Drawn}{ch:List Addr}(I:Inv X pins σ H s)
  (hch:∀ b∈ch,(b∈X.ex\/X.s₀.heap.objs.size<=b)/\b≠X.env.locals/\(∀ x c,X.env.cells.lookup x=some c->c≠b)/\∀ p∈X.pn++pins,p.1≠b)
  (keep:∀ b o,b≠X.env.locals->b∉X.fs->b∉ch->s.heap.get? b=some o->H b=none->h'.get? b=some o)
  (slot:∀ b o,b≠X.env.locals->b∈X.fs->b∉ch->s.heap.get? b=some o->H b=none->∃ sl,h'.get? b=some { o with slots:=sl }) (free:∀ b o,b∉ch->s.heap.get? b=some o->H b=none->H' b=none)
  (there:∀ b o,b∉ch->s.heap.get? b=some o->∃ o',h'.get? b=some o')
  (tups:∀ b xs,H b=some (.tup xs)->H' b=some (.tup xs)) (frzs:∀ b o u,H b=some (.frz o u)->H' b=some (.frz o u)) (tbls:∀ b ps,H b=some (.tbl ps)->∃ more,H' b=some (.tbl (ps++more)))
  (ns:∀ m,s.heap.Ns X.env.locals m->h'.Ns X.env.locals m) (hok:HOk X.prog X.w H' h') (hg:AllBare g') :
  Inv X pins σ H' { s with heap:=h',gens:=g',drawn:=d',toks:=t' }:=by
 have neL:∀ b o,X.s₀.heap.get? b=some o->b≠X.env.locals:=λb o e=>Nat.ne_of_lt (Nat.lt_of_lt_of_le (Heap.lt_size e) I.ok.above)
 have neC:∀ b o,X.s₀.heap.get? b=some o->b∉X.ex->b∉ch:=λb o e hx hb=>by
  rcases(hch b hb).1 with z | z
  ·exact hx z
  ·exact absurd (Nat.lt_of_lt_of_le (Heap.lt_size e) z) (Nat.lt_irrefl _)
 have cellK:∀ x c,X.env.cells.lookup x=some c->∀ v,s.heap.IsCell c v->h'.IsCell c v:=λx c e v ⟨o,ho,hd⟩=>by
  have nch:c∉ch:=λz=>(hch c z).2.2.1 x c e rfl
  by_cases hc:c∈X.fs
  ·obtain⟨sl,q⟩:=slot c o (I.cne x c e) hc nch ho (I.freeC x c e)
   exact⟨_,q,hd⟩
  ·exact⟨o,keep c o (I.cne x c e) hc nch ho (I.freeC x c e),hd⟩
 refine⟨I.ok,I.os,hg,⟨λb o e n hb hx=> ?_,λb o e n hb hx=> ?_,λb o e n hx=> ?_,λb o e hx=> ?_,λb xs e=>tups b xs (I.base.tups b xs e),λb o xs e=>frzs b o xs (I.base.frzs b o xs e),λb ps e=> ?_⟩,?_,λx c e=> ?_,?_,λx c e=> ?_,λp hp=> ?_,hok,I.len⟩
 ·exact keep b o (neL b o e) hb (neC b o e hx) (I.base.keep b o e n hb hx) (I.base.free b o e n hx)
 ·obtain⟨sl,e1⟩:=I.base.slot b o e n hb hx
  obtain⟨sl',e2⟩:=slot b _ (neL b o e) hb (neC b o e hx) e1 (I.base.free b o e n hx)
  exact⟨sl',e2⟩
 ·obtain⟨o',e1⟩:=I.base.there b o e hx
  exact free b o' (neC b o e hx) e1 (I.base.free b o e n hx)
 ·obtain⟨o',e1⟩:=I.base.there b o e hx
  exact there b o' (neC b o e hx) e1
 ·obtain⟨m1,e1⟩:=I.base.tbls b ps e
  obtain⟨m2,e2⟩:=tbls b _ e1
  exact⟨m1++m2,by rw[e2,Array.append_assoc]⟩
 ·obtain⟨m,hn,hl⟩:=I.loc
  refine⟨m,ns m hn,λi x v e1 e2 e3=> ?_⟩
  obtain⟨u,r,l⟩:=hl i x v e1 e2 e3
  refine⟨u,r,?_⟩
  rcases l with l | ⟨k,c,e,z⟩
  ·exact .inl l
  ·exact .inr ⟨k,c,e,cellK x c e _ z⟩
 ·obtain⟨v,z⟩:=I.cell x c e
  exact⟨v,cellK x c e v z⟩
 ·obtain⟨m,⟨o,_,_,ho,_⟩,_⟩:=I.loc
  exact free _ o (λz=>(hch _ z).2.1 rfl) ho I.free
 ·obtain⟨v,o,ho,hd⟩:=I.cell x c e
  exact free c o (λz=>(hch c z).2.2.1 x c e rfl) ho (I.freeC x c e)
 ·obtain⟨e,n,ne,nf,d⟩:=I.pin p hp
  have nch:p.1∉ch:=λz=>(hch p.1 z).2.2.2 p hp rfl
  exact⟨keep p.1 p.2 ne nf nch e n,free p.1 p.2 nch e n,ne,nf,d⟩
theorem Inv.un{t':Nat}(I:Inv X pins σ H s)(u:Un X.fs [] H H' s.heap h')(hok:HOk X.prog X.w H' h'):Inv X pins σ H' { s with heap:=h',toks:=t' }:=by
 obtain⟨m,⟨o,es,ep,ho,r⟩,_⟩:=id I.loc
 obtain⟨sl,hL⟩:=u.any ho I.free (by simp)
 exact I.step (g':=s.gens) (d':=s.drawn) (ch:=[]) (λ_ z=>nomatch z) (λb o _ hb _ e n=>u.keep b o e n hb (by simp)) (λb o _ hb _ e n=>u.slot b o e n hb (by simp)) (λb o _ e n=>u.free b o e n (by simp)) (λb o _ e=>u.there b o e (by simp)) u.tups u.frzs u.tbls (λm' hm=>by
  obtain⟨o',es',ep',ho',r'⟩:=hm
  rw[ho]at ho';cases ho'
  exact⟨_,es',ep',hL,r'⟩) hok I.bare
theorem Inv.call{g':Array GenState}{t':Nat}{d':Drawn}{ch:List Addr}(I:Inv X pins σ H s)(u:Un (frs X.stack) ch H H' s.heap h')(hok:HOk X.prog X.w H' h')(hg:AllBare g')
  (hch:∀ b∈ch,(b∈X.ex\/X.s₀.heap.objs.size<=b)/\b≠X.env.locals/\(∀ x c,X.env.cells.lookup x=some c->c≠b)/\∀ p∈X.pn++pins,p.1≠b) :
  Inv X pins σ H' { s with heap:=h',gens:=g',drawn:=d',toks:=t' }:=by
 obtain⟨m,⟨o,es,ep,ho,r⟩,_⟩:=id I.loc
 obtain⟨sl,hL⟩:=u.any ho I.free λz=>(hch _ z).2.1 rfl
 exact I.step (ch:=ch) hch (λb o hL hb hc e n=>u.keep b o e n (λz=>(List.mem_cons.mp (I.stkSub b z)).elim hL hb) hc) (λb o _ _ hc e n=>u.any e n hc) (λb o hc e n=>u.free b o e n hc) (λb o hc e=>u.there b o e hc) u.tups u.frzs u.tbls (λm' hm=>by
  obtain⟨o',es',ep',ho',r'⟩:=hm
  rw[ho]at ho';cases ho'
  exact⟨_,es',ep',hL,r'⟩) hok hg
theorem Inv.turned{t':Nat}{it:Addr}(I:Inv X pins σ H s)(k:∀ b o,b≠it->s.heap.get? b=some o->h'.get? b=some o)(hn:H it=none)(hL:it≠X.env.locals)
  (h1:it∈X.ex\/X.s₀.heap.objs.size<=it) (h2:∀ x c,X.env.cells.lookup x=some c->c≠it) (h3:∀ p∈X.pn++pins,p.1≠it):Inv X pins σ H { s with heap:=h',toks:=t' }:=by
 have nit:∀ b u,H b=some u->b≠it:=λb u e z=>by rw[z,hn]at e;cases e
 refine I.step (g':=s.gens) (d':=s.drawn) (ch:=[it]) (λb hb=> ?_) (λb o _ _ hc e _=>k b o (λz=>hc (by simp[z])) e) (λb o _ _ hc e _=>⟨o.slots,k b o (λz=>hc (by simp[z])) e⟩) (λ_ _ _ _ n=>n)
  (λb o hc e=>⟨o,k b o (λz=>hc (by simp[z])) e⟩) (λ_ _ e=>e) (λ_ _ _ e=>e) (λb ps e=>⟨#[],by rw[e];simp⟩) (λm hm=> ?_) (λb u e=> ?_) I.bare
 ·have e:b=it:=by simpa using hb
  subst e
  exact⟨h1,hL,h2,h3⟩
 ·obtain⟨o,es,ep,ho,r⟩:=hm
  exact⟨o,es,ep,k _ o (Ne.symm hL) ho,r⟩
 ·refine(I.hok b u e).stay (λc v hc q=>k c v ?_ q) (λ_ q=>q) λ_ _ q=>q
  rcases hc with z | z
  ·rw[z];exact nit b u e
  ·exact nit c _ z
theorem Inv.tok(I:Inv X pins σ H s)(t:Nat):Inv X pins σ H { s with toks:=t }:=I.un (h':=s.heap) (t':=t) Un.refl I.hok
theorem Inv.kept{t':Nat}(I:Inv X pins σ H s)(k:∀ b u,s.heap.get? b=some u->h'.get? b=some u):Inv X pins σ H { s with heap:=h',toks:=t' }:=I.un (Un.kept k) (I.hok.kept k)
theorem Inv.laid{a:Addr}{o:HO}{t':Nat}(I:Inv X pins σ H s)(k:∀ b u,s.heap.get? b=some u->h'.get? b=some u)(hp:s.heap.objs.size<=a)(new:ObjOk X.prog X.w (upd H a o) h' a o) :
  Inv X pins σ (upd H a o) { s with heap:=h',toks:=t' }:=I.un (Un.laid k hp (I.hok.fresh hp)) (I.hok.laid k hp new)
theorem Inv.write{x e:Addr}{o:HO}{t':Nat}(I:Inv X pins σ H s)(mu:Mut (H x))(he:e=x\/H e=some (.own x))(k:∀ b u,b≠e->s.heap.get? b=some u->h'.get? b=some u)(heo:∃ u,h'.get? e=some u)
  (new:ObjOk X.prog X.w (upd H x o) h' x o):Inv X pins σ (upd H x o) { s with heap:=h',toks:=t' }:=I.un (Un.write mu he k heo) (I.hok.write mu he k heo new)
theorem Inv.pins_of{pins':List (Addr × Obj)}(I:Inv X pins σ H s)(h:∀ p∈pins',s.heap.get? p.1=some p.2/\H p.1=none/\p.1≠X.env.locals/\p.1∉X.fs/\∀ v,p.2.data≠.cell v):Inv X pins' σ H s :=
 ⟨I.ok,I.os,I.bare,I.base,I.loc,I.cell,I.free,I.freeC,λp hp=>(List.mem_append.mp hp).elim (λz=>I.pin p (List.mem_append_left _ z)) (h p),I.hok,I.len⟩
theorem ztd{N:List Str}(hN:N.Nodup){i j:Nat}{x:Str}(a:N[i]? =some x)(b:N[j]? =some x):i=j:=by
 obtain⟨h1,e1⟩:=List.getElem?_eq_some_iff.mp a
 obtain⟨h2,e2⟩:=List.getElem?_eq_some_iff.mp b
 exact(List.getElem_inj hN).mp (e1.trans e2.symm)
theorem zur {M:Model} {A:Around} {E:Value->Shared->Prop} {i:Nat} {x:Str} {v:V} {u:Value} {Q:Unit->Shared->Prop} (I:Inv X pins σ H s) (hN:X.N.Nodup) (hi:X.N[i]? =some x) (hx:Loc X.env.scope x) (r:RelV v u)
    (h:∀ s',Inv X pins (σ.set i (some v)) H s'->(∃ a,Heap.SameBut a s.heap s'.heap/\(a=X.env.locals\/X.env.cells.lookup x=some a))->Q () s') (hf:X.fn x=true\/X.env.scope.names.lookup x=some .local:=by first | exact .inl rfl | exact .inr rfl | assumption):wpAny M A (storeName X.env x u) Q E s:=by
  obtain⟨m,hn,hl⟩:=id I.loc
  have hcls:(X.env.scope.kind == .class || (X.env.scope.kind == .module && X.env.locals != X.env.globals))=false:=by rw[I.ok.kind];rfl
  have hiσ:i<σ.length:=by rw[I.len];exact(List.getElem?_eq_some_iff.mp hi).1
  have cne:=I.cne
  have tracked:∀ {a:Addr} {h':Heap},(∃ o,s.heap.get? a=some o/\H a=none)->Heap.SameBut a s.heap h'->HOk X.prog X.w H h':=λ{a h'} ha hs b ob e=>by
    obtain⟨_,_,hfree⟩:=ha
    refine(I.hok b ob e).stay (λc w' hc q=>(hs.2 c ?_).trans q) (λ_ q=>q) λ_ _ q=>q
    rintro rfl
    rcases hc with rfl | hc
    ·rw[hfree]at e;cases e
    ·rw[hfree]at hc;cases hc
  rcases hx with hk | hk
  · refine wpAny_storeName_local hk hn (λh' hn' hs=> ?_) hcls
    obtain⟨oL,_,_,hoL,_⟩:=id hn
    refine h _ ⟨I.ok,I.os,I.bare,⟨λb o e n hb hx=> ?_,λb o e n hb hx=> ?_,I.base.free,λb o e hx=> ?_,I.base.tups,I.base.frzs,I.base.tbls⟩,⟨_,hn',λj y v' e1 e2 e3=> ?_⟩,λy c e=> ?_,I.free,I.freeC,λp hp=> ?_,tracked ⟨oL,hoL,I.free⟩ hs,by simpa using I.len⟩ ⟨_,hs,.inl rfl⟩
    ·exact(hs.2 b (Nat.ne_of_lt (Nat.lt_of_lt_of_le (Heap.lt_size e) I.ok.above))).trans (I.base.keep b o e n hb hx)
    · obtain⟨sl,e1⟩:=I.base.slot b o e n hb hx
      exact⟨sl,(hs.2 b (Nat.ne_of_lt (Nat.lt_of_lt_of_le (Heap.lt_size e) I.ok.above))).trans e1⟩
    · obtain⟨o',e1⟩:=I.base.there b o e hx
      exact⟨o',(hs.2 b (Nat.ne_of_lt (Nat.lt_of_lt_of_le (Heap.lt_size e) I.ok.above))).trans e1⟩
    · by_cases hj:j=i
      · subst hj
        rw[hi]at e1;cases e1
        rw[List.getElem?_set_self hiσ]at e2
        cases e2
        exact⟨u,r,.inl ⟨hk,by simp⟩⟩
      · rw[List.getElem?_set_ne (Ne.symm hj)]at e2
        obtain⟨u',r',q⟩:=hl j y v' e1 e2 e3
        refine⟨u',r',?_⟩
        rcases q with⟨k,e⟩ | ⟨k,c,e,z⟩
        · refine .inl ⟨k,?_⟩
          have:y≠x:=λe=>hj (ztd hN e1 (e ▸ hi))
          simp[this,e]
        ·exact .inr ⟨k,c,e,z.sameBut hs (cne y c e)⟩
    · obtain⟨w',z⟩:=I.cell y c e
      exact⟨w',z.sameBut hs (cne y c e)⟩
    · obtain⟨e,n,ne,nf,d⟩:=I.pin p hp
      exact⟨(hs.2 p.1 ne).trans e,n,ne,nf,d⟩
  · have hfn:X.fn x=true:=by
      rcases hf with z | z
      ·exact z
      ·rw[z]at hk;cases hk
    obtain⟨c,hc⟩:=I.ok.has x (.inl hk)
    obtain⟨w',z⟩:=I.cell x c hc
    refine wpAny_storeName_cell I.ok.kind hk hc z (λh' hc' hs=> ?_)
    obtain⟨oc,hoc,hocd⟩:=id z
    refine h { s with heap:=h' } ⟨I.ok,I.os,I.bare,⟨λb o e n hb hx=> ?_,λb o e n hb hx=> ?_,I.base.free,λb o e hx=> ?_,I.base.tups,I.base.frzs,I.base.tbls⟩,⟨m,hn.sameBut hs (Ne.symm (cne x c hc)),λj y v' e1 e2 e3=> ?_⟩,λy c' e=> ?_,I.free,I.freeC,λp hp=> ?_,tracked ⟨oc,hoc,I.freeC x c hc⟩ hs,by simpa using I.len⟩ ⟨c,hs,.inr hc⟩
    ·exact(hs.2 b (Nat.ne_of_lt (Nat.lt_of_lt_of_le (Heap.lt_size e) (I.ok.cab x c hfn hc)))).trans (I.base.keep b o e n hb hx)
    · obtain⟨sl,e1⟩:=I.base.slot b o e n hb hx
      exact⟨sl,(hs.2 b (Nat.ne_of_lt (Nat.lt_of_lt_of_le (Heap.lt_size e) (I.ok.cab x c hfn hc)))).trans e1⟩
    · obtain⟨o',e1⟩:=I.base.there b o e hx
      exact⟨o',(hs.2 b (Nat.ne_of_lt (Nat.lt_of_lt_of_le (Heap.lt_size e) (I.ok.cab x c hfn hc)))).trans e1⟩
    · by_cases hj:j=i
      · subst hj
        rw[hi]at e1;cases e1
        rw[List.getElem?_set_self hiσ]at e2
        cases e2
        exact⟨u,r,.inr ⟨.inl hk,c,hc,hc'⟩⟩
      · rw[List.getElem?_set_ne (Ne.symm hj)]at e2
        obtain⟨u',r',q⟩:=hl j y v' e1 e2 e3
        refine⟨u',r',?_⟩
        rcases q with q | ⟨k,c',e,z'⟩
        ·exact .inl q
        · refine .inr ⟨k,c',e,z'.sameBut hs ?_⟩
          rintro rfl
          exact hj (ztd hN e1 (I.ok.inj _ _ _ e hc ▸ hi))
    · by_cases hcc:c'=c
      ·subst hcc;exact⟨_,hc'⟩
      · obtain⟨w2,z2⟩:=I.cell y c' e
        exact⟨w2,z2.sameBut hs hcc⟩
    · obtain⟨e,n,ne,nf,d⟩:=I.pin p hp
      refine⟨(hs.2 p.1 ?_).trans e,n,ne,nf,d⟩
      intro q
      rw[q,hoc]at e
      have q':oc=p.2:=Option.some.inj e
      exact d w' (by rw[<-q'];exact hocd)
theorem zp4{M:Model}{A:Around}{E:Value->Shared->Prop}{i:Nat}{x:Str}{v:V}{u:Value}{Q:Unit->Shared->Prop}(I:Inv X pins σ H s)(hN:X.N.Nodup)(hi:X.N[i]? =some x)(hx:Loc X.env.scope x)(r:RelV v u)
  (h:∀ s',Inv X pins (σ.set i (some v)) H s'->Q () s') (hf:X.fn x=true\/X.env.scope.names.lookup x=some .local:=by first | exact .inl rfl | exact .inr rfl | assumption):wpAny M A (storeName X.env x u) Q E s :=
 zur I hN hi hx r (λs' I' _=>h s' I') hf
theorem Inv.call'{s':Shared}{ch:List Addr}(I:Inv X pins σ H s)(ho:s'.os=s.os)(u:Un (frs X.stack) ch H H' s.heap s'.heap)(hok:HOk X.prog X.w H' s'.heap)(hg:AllBare s'.gens)
  (hch:∀ b∈ch,(b∈X.ex\/X.s₀.heap.objs.size<=b)/\b≠X.env.locals/\(∀ x c,X.env.cells.lookup x=some c->c≠b)/\∀ p∈X.pn++pins,p.1≠b):Inv X pins σ H' s':=by
 obtain⟨h',g',d',t',o'⟩:=s'
 have e:o'=s.os:=ho
 subst e
 exact I.call (g':=g') (t':=t') (d':=d') u hok hg hch
end
abbrev XK:=Value->Option Addr->Hp->Prop
abbrev St:=List (Option V)
abbrev VK:=V->Hp->Prop
abbrev TE:=St->Hp->VK->Prop
abbrev TT:=St->Hp->(Bool->Hp->Prop)->Prop
abbrev TA:=St->Hp->(List V->Hp->Prop)->Prop
structure Ends where
 nx:St->Hp->Prop
 rt:VK
 bk:St->Hp->Prop:=λ_ _=>False
 ct:St->Hp->Prop:=λ_ _=>False
abbrev TS:=Ends->St->Hp->Prop
def EP(X:Cx)(pins:List (Addr × Obj))(σ:St)(Q:VK)(u:Value)(s':Shared):Prop:=∃ v H',Inv X pins σ H' s'/\RelV v u/\Q v H'
def TP(X:Cx)(pins:List (Addr × Obj))(σ:St)(Q:Bool->Hp->Prop)(b:Bool)(s':Shared):Prop:=∃ H',Inv X pins σ H' s'/\Q b H'
def AP(X:Cx)(pins:List (Addr × Obj))(σ:St)(Q:List V->Hp->Prop)(us:List Value)(s':Shared):Prop:=∃ vs H',Inv X pins σ H' s'/\Vals vs us/\Q vs H'
def SP(X:Cx)(pins:List (Addr × Obj))(D:Ends)(f:Flow)(s':Shared):Prop :=
 match f with
 | .next=>∃ σ' H',Inv X pins σ' H' s'/\D.nx σ' H'
 | .brk=>∃ σ' H',Inv X pins σ' H' s'/\D.bk σ' H'
 | .cont=>∃ σ' H',Inv X pins σ' H' s'/\D.ct σ' H'
 | .ret u=>∃ v σ' H',Inv X pins σ' H' s'/\RelV v u/\D.rt v H'
def PE(X:Cx)(e:Expr)(t:TE):Prop :=
 ∀ (pins:List (Addr × Obj)) (s:Shared) (σ:St) (H:Hp) (Q:VK),Inv X pins σ H s->t σ H Q->wpAny (model X.prog X.w) X.A (eval e X.env) (EP X pins σ Q) X.xe s
def PT(X:Cx)(e:Expr)(t:TT):Prop :=
 ∀ (pins:List (Addr × Obj)) (s:Shared) (σ:St) (H:Hp) (Q:Bool->Hp->Prop),Inv X pins σ H s->t σ H Q->wpAny (model X.prog X.w) X.A (isTrue e X.env (eval e X.env)) (TP X pins σ Q) X.xe s
def PW(X:Cx)(e:Expr)(t:TT):Prop :=
 ∀ (whole:Sem Value) (pins:List (Addr × Obj)) (s:Shared) (σ:St) (H:Hp) (Q:Bool->Hp->Prop),Inv X pins σ H s->t σ H Q->wpAny (model X.prog X.w) X.A (isTrue e X.env whole) (TP X pins σ Q) X.xe s
theorem PW.pt{X:Cx}{e:Expr}{t:TT}(h:PW X e t):PT X e t:=h _
def PA(X:Cx)(es:List Expr)(t:TA):Prop :=
 ∀ (pos:Pos) (pins:List (Addr × Obj)) (s:Shared) (σ:St) (H:Hp) (Q:List V->Hp->Prop),Inv X pins σ H s->t σ H Q->wpAny (model X.prog X.w) X.A (spliced (backTo pos (starEach es X.env))) (AP X pins σ Q) X.xe s
def PS(X:Cx)(st:Stmt)(t:TS):Prop :=
 ∀ (pins:List (Addr × Obj)) (s:Shared) (σ:St) (H:Hp) (D:Ends),Inv X pins σ H s->t D σ H->wpAny (model X.prog X.w) X.A (exec st X.env) (SP X pins D) X.xe s
def PSs(X:Cx)(st:List Stmt)(t:TS):Prop :=
 ∀ (pins:List (Addr × Obj)) (s:Shared) (σ:St) (H:Hp) (D:Ends),Inv X pins σ H s->t D σ H->wpAny (model X.prog X.w) X.A (execs st X.env) (SP X pins D) X.xe s
theorem thn{α :Type}{t:Sem α}{Q Q': α ->Shared->Prop}{M:Model}{A:Around}{E:Value->Shared->Prop}{s:Shared}(h:wpAny M A t Q E s)(hQ:∀ a s,Q a s->Q' a s):wpAny M A t Q' E s:=wpAny_mono h hQ λ_ _ x=>x
end L2
namespace L2
open PySem PySem.Spec PyProof.Rows
section
variable{X:Cx}
def tVar(i:Nat):TE:=λσ H Q=>∃ v,σ[i]? =some (some v)/\Q v H
def tC(v:V):TE:=λ_ H Q=>Q v H
theorem zaf8{i:Nat}{x:Str}{pos:Pos}(hN:X.N[i]? =some x)(hv:Vis X.env.scope x)(hd:(x ==("__debug__":Str))=false:=by decide)(hcd:(x ==("__classdict__":Str))=false:=by decide):PE X (.Name x pos) (tVar i):=by
 intro pins s σ H Q I h
 obtain⟨v,e,h⟩:=h
 obtain⟨m,hn,hl⟩:=I.loc
 obtain⟨u,r,l⟩:=hl i x v hN e hv
 have fin:EP X pins σ Q u s:=⟨v,H,I,r,h⟩
 rcases l with⟨hk,hm⟩ | ⟨hk,c,hc,hcell⟩
 ·exact wpAny_Name (wpAny_loadName_local I.ok.kind hk hn hm fin) hd
 ·rcases hk with hk | hk
  ·exact wpAny_Name (wpAny_loadName_cell I.ok.kind hk hc hcell fin) hd
  ·exact wpAny_Name (wpAny_loadName_free I.ok.kind hk hc hcell fin hcd) hd
theorem zak{i j pos}:PE X (.Constant (.int i) j pos) (tC (.int i)):=λ_ _ _ H _ I h=>wpAny_Constant_int ⟨.int i,H,I.tok _,⟨_,rfl⟩,h⟩
theorem zrt{b j pos}:PE X (.Constant (.bool b) j pos) (tC (.bl b)):=λ_ _ _ H _ I h=>Constant_bool ⟨.bl b,H,I,rfl,h⟩
theorem zh3{j pos}:PE X (.Constant .none j pos) (tC .non):=λ_ _ _ H _ I h=>Constant_none ⟨.non,H,I,rfl,h⟩
theorem zcy{x j pos}:PE X (.Constant (.str x) j pos) (tC (.str x)):=λ_ _ _ H _ I h=>Calls.Constant_str ⟨.str x,H,I.tok _,⟨_,rfl⟩,h⟩
def Gl(X:Cx)(x:Str):Prop:=X.env.kindOf x=some .globalImplicit
theorem zqd{E:Value->Shared->Prop}{pins:List (Addr × Obj)}{s:Shared}{σ:St}{H:Hp}{x:Str}{u:Value}{pos:Pos}{Q:Value->Shared->Prop}(I:Inv X pins σ H s)(hg:Gl X x)(hm:X.mg x=some u)(h:Q u s)
  (hd:(x ==("__debug__":Str))=false:=by decide):wpAny (model X.prog X.w) X.A (eval (.Name x pos) X.env) Q E s :=
 Calls.Name_function_global I.ok.kind hg (Calls.loadGlobal_global (by rw[I.ok.glob];exact I.mod.glob.keeps I.bk) hm h) hd
theorem zus{E:Value->Shared->Prop}{pins:List (Addr × Obj)}{s:Shared}{σ:St}{H:Hp}{x:Str}{u:Value}{pos:Pos}{Q:Value->Shared->Prop}(I:Inv X pins σ H s)(hg:Gl X x)(hm:X.mg x=none)(hv:bootBuiltins x=some u)(h:Q u s)
  (hn:x≠"__name__":=by decide) (hd:(x ==("__debug__":Str))=false:=by decide):wpAny (model X.prog X.w) X.A (eval (.Name x pos) X.env) Q E s:=by
 obtain⟨mb,h1,h2⟩:=I.mod.blt
 exact Calls.Name_function_global I.ok.kind hg (Calls.loadGlobal_builtin (by rw[I.ok.glob];exact I.mod.glob.keeps I.bk) hm (by rw[I.ok.blt];exact h1.keeps I.bk) ((h2 x hn).trans hv) h) hd
theorem zady{x:Str}{v:V}{u:Value}{pos:Pos}(hg:Gl X x)(hm:X.mg x=some u)(r:RelV v u)(hd:(x ==("__debug__":Str))=false:=by decide):PE X (.Name x pos) (tC v) :=
 λ_ _ _ H _ I h=>zqd I hg hm ⟨v,H,I,r,h⟩ hd
theorem zwn{x:Str}{v:V}{u:Value}{pos:Pos}(hg:Gl X x)(hm:X.mg x=none)(hv:bootBuiltins x=some u)(r:RelV v u)(hn:x≠"__name__":=by decide)(hd:(x ==("__debug__":Str))=false:=by decide):PE X (.Name x pos) (tC v) :=
 λ_ _ _ H _ I h=>zus I hg hm hv ⟨v,H,I,r,h⟩ hn hd
variable{a b:Expr}{ta tb:TE}{pos:Pos}
def PC (X:Cx) (op:CmpOp) (a b:Expr) (t:TE):Prop :=
  ∀ (pins:List (Addr × Obj)) (s:Shared) (σ:St) (H:Hp) (Q:VK),Inv X pins σ H s->t σ H Q →
    wpAny (model X.prog X.w) X.A (eval a X.env) (λv s₁=>wpAny (model X.prog X.w) X.A (eval b X.env) (λu s₂=>wpAny (model X.prog X.w) X.A (compareOp op v u) (EP X pins σ Q) X.xe s₂) X.xe s₁) X.xe s
theorem zabr(b:Expr){op:CmpOp}(h:op≠.In)(h2:op≠.NotIn):behindInMarks op b=false:=by
 have e1:(op == CmpOp.In)=false:=by cases op<;>first | rfl | exact absurd rfl h
 have e2:(op == CmpOp.NotIn)=false:=by cases op<;>first | rfl | exact absurd rfl h2
 cases b<;>simp[behindInMarks,e1,e2]
def tB(t:TE):TT:=λσ H Q=>t σ H λx H1=>∃ c,x=.bl c/\Q c H1
theorem zst{op:CmpOp}{t:TE}(h:PC X op a b t)(h1:behindInMarks op b=false:=by first | exact zabr _ (by decide) (by decide) | rfl):PT X (.Compare a [op] [b] pos) (tB t):=by
 intro pins s σ H Q I hw
 refine wpAny_isTrue_Compare1 (thn (h pins s σ H _ I hw) λv s1 h1=>thn h1 λu s2 h2=>thn h2 λc s3 ⟨x,H1,I1,r1,q1⟩=> ?_) h1
 obtain⟨d,rfl,q⟩:=q1
 cases r1
 exact wpAny_truthy_bool ⟨H1,I1,q⟩
variable{tA tB':TT}{rest:List Expr}
def tAnd(t u:TT):TT:=λσ H Q=>t σ H λc H1=>if c=true then u σ H1 Q else Q false H1
def tOr(t u:TT):TT:=λσ H Q=>t σ H λc H1=>if c=true then Q true H1 else u σ H1 Q
def tNot(t:TT):TT:=λσ H Q=>t σ H λc H1=>Q (!c) H1
theorem zte(ha:PT X a tA):PW X (.BoolOp .And [a] pos) tA:=by
 intro wh pins s σ H Q I h
 refine isTrue_and (thn (ha pins s σ H Q I h) λc s1 e=> ?_)
 cases c with
 | true=>exact isTrue_and_nil e
 | false=>exact e
theorem zadf(ha:PT X a tA):PW X (.BoolOp .Or [a] pos) tA:=by
 intro wh pins s σ H Q I h
 refine isTrue_or (thn (ha pins s σ H Q I h) λc s1 e=> ?_)
 cases c with
 | false=>exact isTrue_or_nil e
 | true=>exact e
theorem zxy(ha:PT X a tA)(hb:PW X (.BoolOp .And (b::rest) pos) tB'):PW X (.BoolOp .And (a::b::rest) pos) (tAnd tA tB'):=by
 intro wh pins s σ H Q I h
 refine isTrue_and (thn (ha pins s σ H _ I h) λc s1 ⟨H1,I1,q1⟩=> ?_)
 cases c with
 | true=>exact hb wh pins s1 σ H1 Q I1 q1
 | false=>exact⟨H1,I1,q1⟩
theorem zaf9(ha:PT X a tA)(hb:PW X (.BoolOp .Or (b::rest) pos) tB'):PW X (.BoolOp .Or (a::b::rest) pos) (tOr tA tB'):=by
 intro wh pins s σ H Q I h
 refine isTrue_or (thn (ha pins s σ H _ I h) λc s1 ⟨H1,I1,q1⟩=> ?_)
 cases c with
 | true=>exact⟨H1,I1,q1⟩
 | false=>exact hb wh pins s1 σ H1 Q I1 q1
theorem zqe(ha:PT X a tA):PT X (.UnaryOp .Not a pos) (tNot tA):=by
 intro pins s σ H Q I h
 exact isTrue_not (ha pins s σ H (λc H1=>Q (!c) H1) I h)
def zwo(ta tb:TE):TE:=λσ H Q=>ta σ H λx H1=>∃ c,x=.bl c/\if c=true then tb σ H1 Q else Q (.bl false) H1
def tOrV(ta tb:TE):TE:=λσ H Q=>ta σ H λx H1=>∃ c,x=.bl c/\if c=true then Q (.bl true) H1 else tb σ H1 Q
theorem zxz{op}{t:TE}(h:PE X a t):PE X (.BoolOp op [a] pos) t:=λpins s σ H Q I hw=>BoolOp_one (h pins s σ H Q I hw)
theorem zut(ha:PE X a ta)(hb:PE X (.BoolOp .And (b::rest) pos) tb):PE X (.BoolOp .And (a::b::rest) pos) (zwo ta tb):=by
 intro pins s σ H Q I h
 refine BoolOp_and (thn (ha pins s σ H _ I h) λv s1 ⟨x,H1,I1,r1,q1⟩=> ?_)
 obtain⟨c,rfl,q1⟩:=q1
 cases r1
 refine wpAny_truthy_bool ?_
 cases c with
 | true=>exact hb pins s1 σ H1 Q I1 q1
 | false=>exact⟨.bl false,H1,I1,rfl,q1⟩
def tIf(t:TT)(ta tb:TE):TE:=λσ H Q=>t σ H λc H1=>if c=true then ta σ H1 Q else tb σ H1 Q
end
end L2
namespace L2
open PySem PySem.Spec PyProof.Rows
def SqL (K:PySem.W.Frag) (H:Hp) (a:Addr) (xs:List V):Prop :=
  Rd H a (.lst xs) ∨
    ∃ (o:Obj) (its:Array Value) (n:Nat),K.lookup a=some o/\o.cls=.type "list"/\o.dict=none/\o.data=.seq its n/\its.size<=sizeLine/\Vals xs its.toList
def SqT (K:PySem.W.Frag) (H:Hp) (a:Addr) (xs:List V):Prop :=
  Rd H a (.tup xs) ∨
    ∃ (o:Obj) (its:Array Value) (n:Nat),K.lookup a=some o/\o.cls=.type "tuple"/\o.data=.seq its n/\its.size<=sizeLine/\Vals xs its.toList
def absV:Value->Option V
 | .none=>some .non
 | .bool b=>some (.bl b)
 | .int i _=>some (.int i)
 | .str x _=>some (.str x)
 | .bytes b _=>some (.byt b)
 | .float b _=>some (.flt b)
 | .ref a=>some (.ref a)
 | .type n=>some (.ty n)
 | _=>none
theorem RelV.abs{x:V}{u:Value}(r:RelV x u):absV u=some x:=by
 cases x with
 | non=>cases r;rfl
 | bl _=>cases r;rfl
 | int _=>obtain⟨t,rfl⟩:=r;rfl
 | str _=>obtain⟨t,rfl⟩:=r;rfl
 | byt _=>obtain⟨t,rfl⟩:=r;rfl
 | flt _=>obtain⟨t,rfl⟩:=r;rfl
 | ref _=>cases r;rfl
 | ty _=>cases r;rfl
theorem RelV.inj{x y:V}{u:Value}(r:RelV x u)(q:RelV y u):x=y:=Option.some.inj (r.abs.symm.trans q.abs)
theorem Vals.inj:∀ {xs ys:List V} {us:List Value},Vals xs us->Vals ys us->xs=ys
 | _,_,_,.nil,.nil=>rfl
 | _,_,_,.cons r t,.cons r' t'=>by rw[r.inj r',Vals.inj t t']
section
variable{X:Cx}{pins:List (Addr × Obj)}{σ:St}{H:Hp}{s:Shared}{a:Addr}{xs ys:List V}
theorem SqL.of{K:PySem.W.Frag}(h:H a=some (.lst xs)):SqL K H a xs:=.inl (.inl h)
theorem SqT.of{K:PySem.W.Frag}(h:H a=some (.tup xs)):SqT K H a xs:=.inl (.inl h)
theorem Inv.list(I:Inv X pins σ H s)(h:SqL X.K H a xs):∃ its:List Value,Vals xs its/\PlainL s.heap a its.toArray/\xs.length<=sizeLine:=by
 rcases h with h | ⟨o,its,n,hk,hc,hd,hs,hz,r⟩
 ·obtain⟨z,its,n,r,e⟩:=h.ok I.hok
  exact⟨its,r,⟨_,n,e,rfl,rfl,rfl⟩,z⟩
 ·refine⟨its.toList,r,⟨o,n,I.kIn a o hk,hc,hd,by simpa using hs⟩,?_⟩
  have e:=r.length
  simp only[Array.length_toList]at e
  omega
theorem Inv.tuple(I:Inv X pins σ H s)(h:SqT X.K H a xs):∃ its:List Value,Vals xs its/\IsTup s.heap a its.toArray/\xs.length<=sizeLine:=by
 rcases h with h | ⟨o,its,n,hk,hc,hs,hz,r⟩
 ·obtain⟨z,its,r,p⟩:=h.ok I.hok
  exact⟨its,r,p,z⟩
 ·refine⟨its.toList,r,⟨o,I.kIn a o hk,hc,n,by simpa using hs⟩,?_⟩
  have e:=r.length
  simp only[Array.length_toList]at e
  omega
theorem Inv.list_inj(I:Inv X pins σ H s)(h:SqL X.K H a xs)(h':SqL X.K H a ys):xs=ys:=by
 obtain⟨its,r,⟨o,n,e,_,_,d⟩,_⟩:=I.list h
 obtain⟨its',r',⟨o',n',e',_,_,d'⟩,_⟩:=I.list h'
 rw[e]at e';cases e'
 rw[d]at d'
 injection d' with d1 _
 have:its=its':=by simpa using congrArg Array.toList d1
 subst this
 exact r.inj r'
theorem Inv.tuple_inj(I:Inv X pins σ H s)(h:SqT X.K H a xs)(h':SqT X.K H a ys):xs=ys:=by
 obtain⟨its,r,⟨o,e,_,n,d⟩,_⟩:=I.tuple h
 obtain⟨its',r',⟨o',e',_,n',d'⟩,_⟩:=I.tuple h'
 rw[e]at e';cases e'
 rw[d]at d'
 injection d' with d1 _
 have:its=its':=by simpa using congrArg Array.toList d1
 subst this
 exact r.inj r'
end
abbrev Cx.wish(X:Cx)(E:Value->Shared->Prop):Cx:={ X with xe:=E }
abbrev Cx.nox(X:Cx):Cx:=X.wish λ_ _=>False
theorem Cx.Ok.wish{X:Cx}(ok:X.Ok)(E:Value->Shared->Prop):(X.wish E).Ok :=
 ⟨ok.mod,ok.kind,ok.glob,ok.blt,ok.above,ok.inj,ok.has,ok.cab,ok.hd,ok.frames,ok.stk,ok.exf,ok.bs,ok.bsz,ok.noex,ok.exfs,ok.funs,ok.frf⟩
theorem Cx.Ok.unwish{X:Cx}{E:Value->Shared->Prop}(ok:(X.wish E).Ok):X.Ok :=
 ⟨ok.mod,ok.kind,ok.glob,ok.blt,ok.above,ok.inj,ok.has,ok.cab,ok.hd,ok.frames,ok.stk,ok.exf,ok.bs,ok.bsz,ok.noex,ok.exfs,ok.funs,ok.frf⟩
section
variable{X:Cx}{pins:List (Addr × Obj)}{σ:St}{H:Hp}{s:Shared}{E:Value->Shared->Prop}
theorem Inv.wish(I:Inv X pins σ H s)(E:Value->Shared->Prop):Inv (X.wish E) pins σ H s:=⟨I.ok.wish E,I.os,I.bare,I.base,I.loc,I.cell,I.free,I.freeC,I.pin,I.hok,I.len⟩
theorem Inv.unwish(I:Inv (X.wish E) pins σ H s):Inv X pins σ H s:=⟨I.ok.unwish,I.os,I.bare,I.base,I.loc,I.cell,I.free,I.freeC,I.pin,I.hok,I.len⟩
theorem SP.unwish{D:Ends}{f:Flow}{s':Shared}(h:SP (X.wish E) pins D f s'):SP X pins D f s':=by
 cases f with
 | next=>obtain⟨σ',H',I,q⟩:=h;exact⟨σ',H',I.unwish,q⟩
 | brk=>obtain⟨σ',H',I,q⟩:=h;exact⟨σ',H',I.unwish,q⟩
 | cont=>obtain⟨σ',H',I,q⟩:=h;exact⟨σ',H',I.unwish,q⟩
 | ret u=>obtain⟨v,σ',H',I,r,q⟩:=h;exact⟨v,σ',H',I.unwish,r,q⟩
theorem PE.nox{e:Expr}{t:TE}(h:PE X.nox e t):PE X e t:=λpins s σ H Q I hw =>
 wpAny_mono (h pins s σ H Q (I.wish _) hw) (λ_ _ ⟨v,H',I',r,q⟩=>⟨v,H',I'.unwish,r,q⟩) λ_ _ z=>False.elim z
theorem PT.nox{e:Expr}{t:TT}(h:PT X.nox e t):PT X e t:=λpins s σ H Q I hw =>
 wpAny_mono (h pins s σ H Q (I.wish _) hw) (λ_ _ ⟨H',I',q⟩=>⟨H',I'.unwish,q⟩) λ_ _ z=>False.elim z
theorem PSs.nox{st:List Stmt}{t:TS}(h:PSs X.nox st t):PSs X st t:=λpins s σ H D I hw =>
 wpAny_mono (h pins s σ H D (I.wish _) hw) (λ_ _ q=>q.unwish) λ_ _ z=>False.elim z
end
section
variable{X:Cx}{st:Stmt}{rest:List Stmt}{t u:TS}{e:Expr}{te:TE}{pos:Pos}
def ze1:TS:=λD σ H=>D.nx σ H
def tSeq(t u:TS):TS:=λD σ H=>t { D with nx:=u D } σ H
theorem zbj:PSs X [] ze1:=λ_ _ σ H _ I h=>wpAny_execs_nil ⟨σ,H,I,h⟩
theorem zae(h1:PS X st t)(h2:PSs X rest u):PSs X (st::rest) (tSeq t u):=by
  intro pins s σ H D I h
  refine wpAny_execs_cons (thn (h1 pins s σ H { D with nx:=u D } I h) λf s1 q=> ?_)
  cases f with
  | next =>
    obtain⟨σ',H',I',q⟩:=q
    exact h2 pins s1 σ' H' D I' q
  | ret v=>exact q
  | brk=>exact q
  | cont=>exact q
theorem zah(h1:PS X st t):PSs X [st] t:=by
 intro pins s σ H D I h
 refine wpAny_execs_cons (thn (h1 pins s σ H D I h) λf s1 q=> ?_)
 cases f with
 | next=>exact wpAny_execs_nil q
 | ret v=>exact q
 | brk=>exact q
 | cont=>exact q
def zaga:TS:=λD σ H=>D.bk σ H
def zah8:TS:=λD σ H=>D.ct σ H
theorem Inv.quiet{pins:List (Addr × Obj)}{σ:St}{H:Hp}{s:Shared}(I:Inv X pins σ H s):interactive X.env=false:=by simp[interactive,I.ok.kind]
def zi7(te:TE):TS:=λD σ H=>te σ H λ_ H1=>D.nx σ H1
theorem zfr(he:PE X e te)(hs:swapsWith e none pos.line X.env=pure false:=by rfl):PS X (.Expr e pos) (zi7 te):=by
 intro pins s σ H D I h
 exact wpAny_Expr_any (thn (he pins s σ H _ I h) λv s1 ⟨x,H1,I1,r1,q1⟩=>⟨σ,H1,I1,q1⟩) I.quiet hs
def tRet(te:TE):TS:=λD σ H=>te σ H D.rt
theorem zax(he:PE X e te):PS X (.Return (some e) pos) (tRet te):=by
 intro pins s σ H D I h
 exact wpAny_Return_some (thn (he pins s σ H _ I h) λv s1 ⟨x,H1,I1,r1,q1⟩=>⟨x,σ,H1,I1,r1,q1⟩)
def zah9:TS:=λD _ H=>D.rt .non H
def tIfS(c:TT)(t u:TS):TS:=λD σ H=>c σ H λb H1=>if b=true then t D σ H1 else u D σ H1
theorem ze2{c:Expr}{a b:List Stmt}{tc:TT}(hc:PT X c tc)(ha:PSs X a t)(hb:PSs X b u):PS X (.If c a b pos) (tIfS tc t u):=by
 intro pins s σ H D I h
 refine wpAny_If (thn (hc pins s σ H _ I h) λd s1 ⟨H1,I1,q1⟩=> ?_)
 cases d with
 | true=>exact ha pins s1 σ H1 D I1 q1
 | false=>exact hb pins s1 σ H1 D I1 q1
end
abbrev TG:=V->St->Hp->(St->Hp->Prop)->Prop
abbrev TGs:=List V->St->Hp->(St->Hp->Prop)->Prop
def PG (X:Cx) (target:Expr) (t:TG):Prop :=
  ∀ (pins:List (Addr × Obj)) (s:Shared) (σ:St) (H:Hp) (v:V) (u:Value) (Q:St->Hp->Prop),Inv X pins σ H s->RelV v u->t v σ H Q →
    wpAny (model X.prog X.w) X.A (assign target X.env u) (λ_ s'=>∃ σ' H',Inv X pins σ' H' s'/\Q σ' H') X.xe s
def PGs (X:Cx) (ts:List Expr) (t:TGs):Prop :=
  ∀ (pins:List (Addr × Obj)) (s:Shared) (σ:St) (H:Hp) (vs:List V) (us:List Value) (Q:St->Hp->Prop),Inv X pins σ H s->Vals vs us->t vs σ H Q →
    wpAny (model X.prog X.w) X.A (assignInOrder ((assignEach ts X.env).map (·.2)) us) (λ_ s'=>∃ σ' H',Inv X pins σ' H' s'/\Q σ' H') X.xe s
abbrev TSet:=V->V->V->Hp->(Hp->Prop)->Prop
def PSet (X:Cx) (t:TSet):Prop :=
  ∀ (pins:List (Addr × Obj)) (s:Shared) (σ:St) (H:Hp) (o i v:V) (ov iv u:Value) (Q:Hp->Prop),Inv X pins σ H s->RelV o ov->RelV i iv->RelV v u->t o i v H Q →
    wpAny (model X.prog X.w) X.A (setItem ov iv u) (λ_ s'=>∃ H',Inv X pins σ H' s'/\Q H') X.xe s
abbrev TIp:=V->V->Hp->VK->Prop
section
variable{X:Cx}{pos:Pos}
def zaz(i:Nat):TG:=λv σ H Q=>Q (σ.set i (some v)) H
theorem zb3{i:Nat}{x:Str}(hN:X.N.Nodup)(hi:X.N[i]? =some x)(hx:Loc X.env.scope x)(hf:X.fn x=true\/X.env.scope.names.lookup x=some .local:=by first | exact .inl rfl | exact .inr rfl | assumption):PG X (.Name x pos) (zaz i):=by
 intro pins s σ H v u Q I r h
 exact wpAny_assign_Name (zp4 I hN hi hx r (λs' I'=>⟨_,H,I',h⟩) hf)
def gNil:TGs:=λvs σ H Q=>vs=[]/\Q σ H
def zyw(t:TG)(u:TGs):TGs:=λvs σ H Q=>∃ v r,vs=v::r/\t v σ H λσ' H'=>u r σ' H' Q
theorem zzu:PGs X [] gNil:=by
 intro pins s σ H vs us Q I r h
 obtain⟨e,h⟩:=h
 subst e
 cases r
 exact assignInOrder_nil ⟨σ,H,I,h⟩
theorem zp5{e:Expr}{es:List Expr}{t:TG}{u:TGs}(h1:PG X e t)(h2:PGs X es u)
    (hs:(assignEach (e::es) X.env).map (·.2)=assign e X.env::(assignEach es X.env).map (·.2):=by rfl):PGs X (e::es) (zyw t u):=by
  intro pins s σ H vs us Q I r h
  obtain⟨v,vr,e1,h⟩:=h
  subst e1
  cases r with
  | cons r rr =>
    rw[hs]
    refine assignInOrder_cons (thn (h1 pins s σ H _ _ _ I r h) λ_ s1 ⟨σ1,H1,I1,q1⟩=> ?_)
    exact h2 pins s1 σ1 H1 _ _ Q I1 rr q1
def gTup(K:PySem.W.Frag)(n:Nat)(t:TGs):TG:=λv σ H Q=>∃ a xs,v=.ref a/\SqT K H a xs/\xs.length=n/\t xs σ H Q
theorem zadg{es:List Expr}{k:Nat}{t:TGs}{n:Nat}(hc:X.calm=true)(h:PGs X es t)
  (hn:(assignEach es X.env).length=n:=by rfl) (hst:(assignEach es X.env).findIdx? (·.1)=none:=by rfl):PG X (.Tuple es k pos) (gTup X.K n t):=by
 intro pins s σ H v u Q I r hw
 obtain⟨a,xs,e1,hq,hl,hw⟩:=hw
 subst e1
 cases r
 obtain⟨its,rv,ht,hz⟩:=I.tuple hq
 refine assign_Tuple_tuple (I.ok.hd hc) ht (by simp[hn,<-hl,rv.length]) hst λh' hx=> ?_
 have I1:Inv X pins σ H { s with heap:=h' }:=I.kept (t':=s.toks) λb o e=>hx b o (Nat.ne_of_lt (Heap.lt_size e)) e
 exact h pins _ σ H xs _ Q I1 (by simpa using rv) hw
def gSub(to ti:TE)(t:TSet):TG:=λv σ H Q=>to σ H λo H1=>ti σ H1 λi H2=>t o i v H2 λH3=>Q σ H3
theorem zx0{o i:Expr}{to ti:TE}{t:TSet}(ho:PE X o to)(hi:PE X i ti)(hs:PSet X t)
  (ha:∀ v,assign (.Subscript o i pos) X.env v=(do
   let ov ← holding [v] (eval o X.env)
   let iv ← holding [v,ov] (eval i X.env)
   standAt pos
   holding [v,ov,iv] (setItem ov iv v)
   release [v,ov,iv] []):=by intro _;rfl):PG X (.Subscript o i pos) (gSub to ti t):=by
 intro pins s σ H v u Q I r h
 rw[ha]
 refine wpAny_bind (wpAny_holding (thn (ho pins s σ H _ I h) λov s1 ⟨x,H1,I1,r1,q1⟩=> ?_))
 refine wpAny_bind (wpAny_holding (thn (hi pins s1 σ H1 _ I1 q1) λiv s2 ⟨y,H2,I2,r2,q2⟩=> ?_))
 refine wpAny_bind (wpAny_standAt (wpAny_bind (wpAny_holding (thn (hs pins s2 σ H2 x y v ov iv u _ I2 r1 r2 r q2) λ_ s3 ⟨H3,I3,q3⟩=> ?_))))
 exact wpAny_release ⟨σ,H3,I3,q3⟩
def tAsg(te:TE)(g:TG):TS:=λD σ H=>te σ H λx H1=>g x σ H1 D.nx
theorem zuu{tg e:Expr}{te:TE}{g:TG}(he:PE X e te)(hg:PG X tg g)(hs:swapsWithSole [tg] e pos.line X.env=pure false:=by rfl)(hw:swappedStores [tg] e X.env=pure none:=by rfl)
  (h1:(assignEach [tg] X.env).map (·.2)=[assign tg X.env]:=by rfl):PS X (.Assign [tg] e pos) (tAsg te g):=by
 intro pins s σ H D I h
 refine wpAny_Assign_stores (thn (he pins s σ H _ I h) λv s1 ⟨x,H1,I1,r1,q1⟩=> ?_) hs hw
 rw[h1]
 exact thn (hg pins s1 σ H1 x v _ I1 r1 q1) λ_ s2 q=>q
theorem zbq{i:Nat}{x:Str}{e:Expr}{te:TE}{pos':Pos}(hN:X.N.Nodup)(hi:X.N[i]? =some x)(hx:Loc X.env.scope x)(he:PE X e te)(hs:swapsWith e (some (.Name x pos')) pos.line X.env=pure false:=by rfl)(hf:X.fn x=true\/X.env.scope.names.lookup x=some .local:=by first | exact .inl rfl | exact .inr rfl | assumption) :
  PS X (.Assign [.Name x pos'] e pos) (tAsg te (zaz i)):=by
 intro pins s σ H D I h
 refine wpAny_Assign_Name (thn (he pins s σ H _ I h) λv s1 ⟨y,H1,I1,r1,q1⟩=> ?_) hs
 exact zp4 I1 hN hi hx r1 (λs2 I2=>⟨_,H1,I2,q1⟩) hf
def tAug(i:Nat)(te:TE)(ti:TIp):TS:=λD σ H=>∃ x,σ[i]? =some (some x)/\te σ H λy H1=>ti x y H1 λz H2=>D.nx (σ.set i (some z)) H2
def ipI(f:Int->Int->Int):TIp:=λx y H Q=>∃ i j,x=.int i/\y=.int j/\Q (.int (f i j)) H
end
section
variable{X:Cx}{pos:Pos}
end
structure It where
 go:Nat->Hp->Prop
 yld:Nat->Hp->V->Hp->Prop
 stop:Nat->Hp->Prop
def FpOk(X:Cx)(pins:List (Addr × Obj))(H:Hp)(b:Addr):Prop :=
 H b=none/\b≠X.env.locals/\b∉X.fs/\(b∈X.ex\/X.s₀.heap.objs.size<=b)/\(∀ x c,X.env.cells.lookup x=some c->c≠b)/\∀ p∈X.pn++pins,p.1≠b
theorem Inv.fpOk{X:Cx}{pins:List (Addr × Obj)}{σ:St}{H H':Hp}{s:Shared}{b:Addr}(I:Inv X pins σ H s)(hb:s.heap.objs.size<=b)(hn:H' b=none):FpOk X pins H' b:=by
 refine⟨hn,Nat.ne_of_gt (Nat.lt_of_lt_of_le I.lt hb),I.nofs hb,.inr (Nat.le_trans I.sz hb),λx c e z=> ?_,λp hp z=> ?_⟩
 ·obtain⟨v,q⟩:=I.cell x c e
  exact absurd (Nat.lt_of_lt_of_le q.lt (by rw[z];exact hb)) (Nat.lt_irrefl _)
 ·exact absurd (Nat.lt_of_lt_of_le (Heap.lt_size (I.pin p hp).1) (by rw[z];exact hb)) (Nat.lt_irrefl _)
structure Turn(P:Program)(w:World)(K:PySem.W.Frag)(tg:Expr)(J:It)(fp:List Addr)(it:Addr)(tn:Nat->Heap->Prop):Prop where
 mem:it∈fp
 obj:∀ i h,tn i h->∀ b∈fp,∃ o,h.get? b=some o/\∀ v,o.data≠.cell v
 keep:∀ i h h',tn i h->(∀ b∈fp,∀ o,h.get? b=some o->h'.get? b=some o)->tn i h'
 item:∀ (X:Cx),X.prog=P->X.w=w->X.K=K->X.calm=true->∀ (i:Nat) (pins:List (Addr × Obj)) (s:Shared) (σ:St) (H:Hp) (E:Value->Shared->Prop),Inv X pins σ H s->(∀ b∈fp,FpOk X pins H b)->tn i s.heap->J.go i H →
  wpAny (model P w) X.A (pyNext (.ref it)) (λr s1=>∃ u,r=some u ∧
   wpAny (model P w) X.A (letOwnedTupleGo tg (.ref it) u) (λ_ s2=>∃ x H',Inv X pins σ H' s2/\RelV x u/\J.yld i H x H'/\tn (i+1) s2.heap/\∀ b∈fp,H' b=none) E s1) E s
 done:∀ (X:Cx),X.prog=P->X.w=w->X.K=K->X.calm=true->∀ (i:Nat) (pins:List (Addr × Obj)) (s:Shared) (σ:St) (H:Hp) (E:Value->Shared->Prop),Inv X pins σ H s->(∀ b∈fp,FpOk X pins H b)->tn i s.heap->J.stop i H →
  wpAny (model P w) X.A (pyNext (.ref it)) (λr s1=>r=none/\Inv X pins σ H s1) E s
 self:∀ (A:Around) (i:Nat) (s:Shared) (Q:Value->Shared->Prop) (E:Value->Shared->Prop),tn i s.heap->Q (.ref it) s->wpAny (model P w) A (pyIter (.ref it)) Q E s
abbrev TI:=St->Hp->(It->Hp->Prop)->Prop
def PIE(X:Cx)(pins:List (Addr × Obj))(σ:St)(tg:Expr)(R:It->Hp->Prop)(itv:Value)(s2:Shared):Prop :=
 ∃ (it:Addr) (fp:List Addr) (tn:Nat->Heap->Prop) (J:It) (H':Hp),itv=.ref it/\Inv X pins σ H' s2/\Turn X.prog X.w X.K tg J fp it tn/\tn 0 s2.heap/\(∀ b∈fp,FpOk X pins H' b)/\R J H'
def PI (X:Cx) (tg iter:Expr) (wi:TI):Prop :=
  ∀ (pins:List (Addr × Obj)) (s:Shared) (σ:St) (H:Hp) (R:It->Hp->Prop),Inv X pins σ H s->wi σ H R →
    wpAny (model X.prog X.w) X.A (eval iter X.env) (λv s1=>wpAny (model X.prog X.w) X.A (pyIter v) (PIE X pins σ tg R) X.xe s1) X.xe s
theorem zabs {M:Model} {A:Around} {E:Value->Shared->Prop} {s:Shared} {tg:Expr} {it:Addr} {u:Value} {o:Obj} {n:String} {vs:Array Value} {Q:Unit->Shared->Prop} (ho:s.heap.get? it=some o) (hc:o.cls=.type n) (hd:o.data=.fields vs)
    (hn:["enumerate","zip","dict_itemiterator","dict_reverseitemiterator","odict_iterator","itertools.zip_longest","itertools.pairwise"].contains n=false) (hQ:Q () s):wpAny M A (letOwnedTupleGo tg (.ref it) u) Q E s:=by
  unfold letOwnedTupleGo
  cases tg <;> first
    | exact wpAny_pure hQ
    | (cases u<;>first
        | exact wpAny_pure hQ
        | (refine wpAny_bind (wpAny_load ho ?_)
           rw[hc,hd]
           show wpAny M A (if(["enumerate","zip","dict_itemiterator","dict_reverseitemiterator","odict_iterator","itertools.zip_longest","itertools.pairwise"].contains n && vs[0]? == some (rawInt _))=true then _ else _) Q E s
           rw[if_neg (by intro h;rw[hn,Bool.false_and]at h;cases h)]
           exact wpAny_pure hQ))
def Itl(K:PySem.W.Frag)(a:Addr):It :=
 ⟨λi H=>∃ xs x,SqL K H a xs/\xs[i]? =some x,λi H x H'=>H'=H/\∀ xs,SqL K H a xs->xs[i]? =some x,λi H=>∃ xs,SqL K H a xs/\xs.length<=i⟩
def Itt(K:PySem.W.Frag)(a:Addr):It :=
 ⟨λi H=>∃ xs x,SqT K H a xs/\xs[i]? =some x,λi H x H'=>H'=H/\∀ xs,SqT K H a xs->xs[i]? =some x,λi H=>∃ xs,SqT K H a xs/\xs.length<=i⟩
def Itr(lo:Int)(n:Nat):It:=⟨λi _=>i<n,λi H x H'=>H'=H/\x=.int (lo+i),λi _=>n<=i⟩
theorem zzv{P:Program}{w:World}{K:PySem.W.Frag}{tg:Expr}(a it:Addr):Turn P w K tg (Itl K a) [it] it (λi h=>h.IsListIter it a i) where
 mem:=by simp
 obj:=λi h st b hb=>by
  have e:b=it:=by simpa using hb
  subst e
  obtain⟨o,e,c,d⟩:=st
  exact⟨o,e,λv z=>by rw[d]at z;cases z⟩
 keep:=λi h h' st k=>st.at λo e=>k it (by simp) o e
 item:=by
  intro X hP hw hK hc i pins s σ H E I hf st hg
  subst hP hw hK
  obtain⟨xs,x,hq,hx⟩:=hg
  obtain⟨its,rv,p,hz⟩:=I.list hq
  obtain⟨u,hu,ru⟩:=rv.get hx
  obtain⟨f0,f1,f2,f3,f4,f5⟩:=hf it (by simp)
  refine wpAny_pyNext_list_item st p.isList (x:=u) (by simpa using hu) λh' st' sb=> ?_
  have I1:Inv X pins σ H { s with heap:=h' }:=I.turned (t':=s.toks) (λb o hb e=>(sb.2 b hb).trans e) f0 f1 f3 f4 f5
  obtain⟨o,e,c,d⟩:=id st'
  exact⟨u,rfl,zabs (s:={ s with heap:=h' }) e c d (by decide) ⟨x,H,I1,ru,⟨rfl,λys hy=>by rw[I.list_inj hy hq];exact hx⟩,st',λb hb=>(hf b hb).1⟩⟩
 done:=by
  intro X hP hw hK hc i pins s σ H E I hf st hg
  subst hP hw hK
  obtain⟨xs,hq,hx⟩:=hg
  obtain⟨its,rv,p,hz⟩:=I.list hq
  obtain⟨f0,f1,f2,f3,f4,f5⟩:=hf it (by simp)
  have hl:=rv.length
  exact wpAny_pyNext_list_end (I.ok.hd hc) st p.isList (by simp;omega) λh' eb=>⟨rfl,I.turned (t':=s.toks) (λb o hb e=>eb b o hb e) f0 f1 f3 f4 f5⟩
 self:=λ_ _ _ _ _ st h=>wpAny_pyIter_listiter st h
theorem zyx{P:Program}{w:World}{K:PySem.W.Frag}{tg:Expr}(a it:Addr):Turn P w K tg (Itt K a) [it] it (λi h=>h.IsTupleIter it a i) where
 mem:=by simp
 obj:=λi h st b hb=>by
  have e:b=it:=by simpa using hb
  subst e
  obtain⟨o,e,c,d⟩:=st
  exact⟨o,e,λv z=>by rw[d]at z;cases z⟩
 keep:=λi h h' st k=>st.at λo e=>k it (by simp) o e
 item:=by
  intro X hP hw hK hc i pins s σ H E I hf st hg
  subst hP hw hK
  obtain⟨xs,x,hq,hx⟩:=hg
  obtain⟨its,rv,p,hz⟩:=I.tuple hq
  obtain⟨u,hu,ru⟩:=rv.get hx
  obtain⟨f0,f1,f2,f3,f4,f5⟩:=hf it (by simp)
  refine wpAny_pyNext_tuple_item st (show s.heap.IsTuple a its.toArray from p) (x:=u) (by simpa using hu) λh' st' sb=> ?_
  have I1:Inv X pins σ H { s with heap:=h' }:=I.turned (t':=s.toks) (λb o hb e=>(sb.2 b hb).trans e) f0 f1 f3 f4 f5
  obtain⟨o,e,c,d⟩:=id st'
  exact⟨u,rfl,zabs (s:={ s with heap:=h' }) e c d (by decide) ⟨x,H,I1,ru,⟨rfl,λys hy=>by rw[I.tuple_inj hy hq];exact hx⟩,st',λb hb=>(hf b hb).1⟩⟩
 done:=by
  intro X hP hw hK hc i pins s σ H E I hf st hg
  subst hP hw hK
  obtain⟨xs,hq,hx⟩:=hg
  obtain⟨its,rv,p,hz⟩:=I.tuple hq
  obtain⟨f0,f1,f2,f3,f4,f5⟩:=hf it (by simp)
  have hl:=rv.length
  exact wpAny_pyNext_tuple_end (I.ok.hd hc) st (show s.heap.IsTuple a its.toArray from p) (by simp;omega) λh' eb=>⟨rfl,I.turned (t':=s.toks) (λb o hb e=>eb b o hb e) f0 f1 f3 f4 f5⟩
 self:=λ_ _ _ _ _ st h=>wpAny_pyIter_tupleiter st h
theorem zyy{P:Program}{w:World}{K:PySem.W.Frag}{tg:Expr}(it:Addr)(lo:Int)(n:Nat):Turn P w K tg (Itr lo n) [it] it (λi h=>IsRangeIter h it (lo+(i:Nat) * 1) ((n:Int) - (i:Nat)) 1) where
  mem:=by simp
  obj := λi h st b hb=>by
    have e:b=it:=by simpa using hb
    subst e
    exact⟨_,st,λv z=>by
      have z':Data.fields _=Data.cell v:=z
      cases z'⟩
  keep:=λi h h' st k=>k it (by simp) _ st
  item:=by
    intro X hP hw hK hc i pins s σ H E I hf st hg
    subst hP hw hK
    obtain⟨f0,f1,f2,f3,f4,f5⟩:=hf it (by simp)
    have W:=Walks.range (prog:=X.prog) (w:=X.w) (I.ok.hd hc) it lo 1 n
    refine W.item i s _ _ hg st λv h' tk hv st' kk=> ?_
    obtain⟨t,rfl⟩:=hv
    have I1:Inv X pins σ H { s with heap:=h',toks:=tk }:=I.turned (λb o hb e=>kk b o (by simpa using hb) e) f0 f1 f3 f4 f5
    refine⟨_,rfl,zabs (s:={ s with heap:=h',toks:=tk }) (n:="range_iterator") st' rfl rfl (by decide) ⟨.int (lo+i),H,I1,⟨t,?_⟩,⟨rfl,rfl⟩,st',λb hb=>(hf b hb).1⟩⟩
    rw[Int.mul_one]
  done:=by
    intro X hP hw hK hc i pins s σ H E I hf st hg
    subst hP hw hK
    obtain⟨f0,f1,f2,f3,f4,f5⟩:=hf it (by simp)
    exact wpAny_pyNext_range_end (I.ok.hd hc) st (by have:n<=i:=hg;omega) λh' eb=>⟨rfl,I.turned (t':=s.toks) (λb o hb e=>eb b o hb e) f0 f1 f3 f4 f5⟩
  self:=λ_ _ _ _ _ st h=>wpAny_pyIter_rangeiter st h
end L2
namespace L2
open PySem PySem.Spec PyProof.Rows
section
variable{X:Cx}{tg:Expr}
theorem zabt{pins:List (Addr × Obj)}{σ:St}{H:Hp}{s:Shared}{R:It->Hp->Prop}{E:Value->Shared->Prop}{lo hi:Int}{t u v:Tok}{tk:Nat}(I:Inv X pins σ H s)(h1: -(2 ^ 62)<=lo)(h2:lo<2 ^ 62)(h3: -(2 ^ 62)<=hi)(h4:hi<2 ^ 62)
  (q:R (Itr lo (hi - lo).toNat) H):wpAny (model X.prog X.w) X.A (pyIter (.ref s.heap.objs.size)) (PIE X pins σ tg R) E { s with heap:=s.heap.push { cls:=.type "range",data:=.fields #[.int lo t,.int hi u,.int 1 v] },toks:=tk }:=by
 refine wpAny_pyIter_range (IsRange.new ..) (small_one h1 h2 h3 h4) ?_
 have I1:Inv X pins σ H { s with heap:=s.heap.push { cls:=.type "range",data:=.fields #[.int lo t,.int hi u,.int 1 v] },toks:=tk }:=I.kept λb o e=>Heap.get?_push_of_some _ e
 refine⟨(s.heap.push { cls:=.type "range",data:=.fields #[.int lo t,.int hi u,.int 1 v] }).objs.size,[(s.heap.push { cls:=.type "range",data:=.fields #[.int lo t,.int hi u,.int 1 v] }).objs.size],_,_,H,rfl,
  I1.kept (t':=tk) λb o e=>Heap.get?_push_of_some _ e,zyy _ lo (hi - lo).toNat,?_,λb hb=> ?_,q⟩
 ·have e1:lo+((0:Nat):Int) * 1=lo:=by simp
  have e2:(((hi - lo).toNat:Nat):Int) - ((0:Nat):Int)=Builtin.Range.rangeSize lo hi 1:=by rw[rangeSize_one];split<;>omega
  show IsRangeIter _ _ (lo+((0:Nat):Int) * 1) ((((hi - lo).toNat:Nat):Int) - ((0:Nat):Int)) 1
  rw[e1,e2]
  exact Heap.get?_push_size _ rfl
 ·have e:b=(s.heap.push { cls:=.type "range",data:=.fields #[.int lo t,.int hi u,.int 1 v] }).objs.size:=by simpa using hb
  subst e
  exact I1.fpOk (Nat.le_refl _) (I1.hok.fresh (Nat.le_refl _))
def ziw(ta:TA):TI:=λσ H R=>ta σ H λvs H1=>∃ j:Int,vs=[.int j]/\ -(2 ^ 62)<=j/\j<2 ^ 62/\R (Itr 0 j.toNat) H1
def zagb(ta:TA):TI:=λσ H R=>ta σ H λvs H1=>∃ i j:Int,vs=[.int i,.int j]/\(-(2 ^ 62)<=i/\i<2 ^ 62/\ -(2 ^ 62)<=j/\j<2 ^ 62)/\R (Itr i (j - i).toNat) H1
theorem zcr{a:Expr}{ta:TA}{p pos:Pos}(hg:Gl X "range")(hm:X.mg "range"=none)(ha:PA X [a] ta)(hs:starEach [a] X.env=[(false,eval a X.env)]:=by rfl):PI X tg (.Call (.Name "range" p) [a] [] pos) (ziw ta):=by
  intro pins s σ H R I h
  refine Call_ (zus I hg hm boot_range (PyProof.Rows.callWith_type1 (thn (ha pos pins s σ H _ I h) λus s1 ⟨vs,H1,I1,r1,q1⟩=> ?_) hs rfl))
  obtain⟨j,e,q1,q2,q⟩:=q1
  subst e
  cases r1 with
  | cons r rr =>
    cases rr
    obtain⟨t,rfl⟩:=r
    exact call_range_1 (zabt I1 (by omega) (by omega) q1 q2 (by simpa using q))
def tFor(wi:TI)(g:TG)(tb:TS):TS:=λD σ H=>wi σ H λJ H1=>∃ W:Nat->Nat->St->Hp->Prop,(∃ m,W 0 m σ H1)/\∀ i m σ H,W i m σ H →
 (J.stop i H/\D.nx σ H)\/(J.go i H/\∃ N:St->Hp->Prop,(∀ σ' H',N σ' H'->∃ m',m'<m/\W (i+1) m' σ' H')/\∀ x H',J.yld i H x H'->g x σ H' λσ2 H2=>tb { D with nx:=N,ct:=N,bk:=D.nx } σ2 H2)
def zuv(fp:List Addr)(h:Heap):List (Addr × Obj):=fp.filterMap λb=>(h.get? b).map λo=>(b,o)
theorem zjt{fp:List Addr}{h:Heap}{b:Addr}{o:Obj}(hb:b∈fp)(e:h.get? b=some o):(b,o)∈zuv fp h:=List.mem_filterMap.mpr ⟨b,hb,by rw[e];rfl⟩
theorem zzw{fp:List Addr}{h:Heap}{p:Addr × Obj}(hp:p∈zuv fp h):p.1∈fp/\h.get? p.1=some p.2:=by
  obtain⟨b,hb,e⟩:=List.mem_filterMap.mp hp
  cases q:h.get? b with
  | none=>rw[q]at e;cases e
  | some o =>
    rw[q]at e
    have e':(b,o)=p:=Option.some.inj e
    subst e'
    exact⟨hb,q⟩
theorem Inv.pinned{pins:List (Addr × Obj)}{σ:St}{H:Hp}{s:Shared}{fp:List Addr}(I:Inv X pins σ H s)(hf:∀ b∈fp,FpOk X pins H b)(ho:∀ b∈fp,∃ o,s.heap.get? b=some o/\∀ v,o.data≠.cell v):Inv X (pins++zuv fp s.heap) σ H s :=
  I.pins_of λp hp=>(List.mem_append.mp hp).elim (λz=>I.pin p (List.mem_append_right _ z)) λz=>by
    obtain⟨hb,e⟩:=zzw z
    obtain⟨f0,f1,f2,_⟩:=hf p.1 hb
    obtain⟨o,e',d⟩:=ho p.1 hb
    rw[e]at e';cases e'
    exact⟨e,f0,f1,f2,d⟩
theorem Inv.unpinned{pins pl:List (Addr × Obj)}{σ:St}{H:Hp}{s:Shared}(I:Inv X (pins++pl) σ H s):Inv X pins σ H s:=I.pins_of λp hp=>I.pin p (List.mem_append_right _ (List.mem_append_left _ hp))
theorem zgx{iter:Expr}{body:List Stmt}{wi:TI}{g:TG}{tb:TS}{pos:Pos}(hp:PassesOwn (model X.prog X.w) X.A X.env X.xe)(hc:X.calm=true)(hi:PI X tg iter wi)(hg:PG X tg g)(hb:PSs X body tb)
  (hs:∀ x,foldedSetIterable iter X.env x=pure x:=by intro _;rfl):PS X (.For tg iter body [] pos) (tFor wi g tb):=by
 intro pins s σ H D I h
 refine wpAny_For (thn (hi pins s σ H _ I h) λv s1 h1=>thn h1 λitv s2 h2=> ?_) hs
 obtain⟨it,fp,tn,J,H2,e,I2,T,st2,f2,W,⟨m0,w0⟩,turn⟩:=h2
 subst e
 have stat:∀ {H':Hp},(∀ b∈fp,H' b=none)->∀ b∈fp,FpOk X pins H' b:=λhn b hb=>⟨hn b hb,(f2 b hb).2⟩
 refine codeAny_forLoop_any (λn s'=>∃ i σ' H',Inv X pins σ' H' s'/\tn i s'.heap/\(∀ b∈fp,H' b=none)/\W i n σ' H') ?_ m0 ⟨0,σ,H2,I2,st2,λb hb=>(f2 b hb).1,w0⟩
 rintro n s3 ⟨i,σ3,H3,I3,st3,fr3,w3⟩
 rcases turn i n σ3 H3 w3 with⟨stop,qn⟩ | ⟨go,N,hN,step⟩
 ·refine wpAny_passesOwn hp (thn (T.done X rfl rfl rfl hc i pins s3 σ3 H3 X.xe I3 (stat fr3) st3 stop) λr s4 ⟨hr,I4⟩=> ?_)
  subst hr
  exact wpAny_execs_nil ⟨σ3,H3,I4,qn⟩
 ·refine wpAny_passesOwn hp (thn (T.item X rfl rfl rfl hc i pins s3 σ3 H3 X.xe I3 (stat fr3) st3 go) λr s4 ⟨u,hr,h4⟩=> ?_)
  subst hr
  refine wpAny_passesOwn hp (thn h4 λ_ s5 ⟨x,H5,I5,r5,y5,st5,fr5⟩=> ?_)
  have I5':=I5.pinned (stat fr5) (T.obj _ _ st5)
  refine wpAny_passesOwn hp (thn (hg _ s5 σ3 H5 x u _ I5' r5 (step x H5 y5)) λ_ s6 ⟨σ6,H6,I6,q6⟩=> ?_)
  refine wpAny_passesOwn hp (thn (hb _ s6 σ6 H6 _ I6 q6) λf s7 q7=> ?_)
  have again:∀ {σ7:St} {H7:Hp},Inv X (pins++zuv fp s5.heap) σ7 H7 s7->N σ7 H7->∃ m,m<n/\∃ i σ' H',Inv X pins σ' H' s7/\tn i s7.heap/\(∀ b∈fp,H' b=none)/\W i m σ' H':=λ{σ7 H7} I7 n7=>by
   obtain⟨m',hm,w7⟩:=hN σ7 H7 n7
   refine⟨m',hm,i+1,σ7,H7,I7.unpinned,T.keep _ _ _ st5 λb hb o e=>(I7.pin (b,o) (List.mem_append_right _ (List.mem_append_right _ (zjt hb e)))).1,λb hb=> ?_,w7⟩
   obtain⟨o,e,d⟩:=T.obj _ _ st5 b hb
   exact(I7.pin (b,o) (List.mem_append_right _ (List.mem_append_right _ (zjt hb e)))).2.1
  cases f with
  | next=>obtain⟨σ7,H7,I7,n7⟩:=q7;exact again I7 n7
  | cont=>obtain⟨σ7,H7,I7,n7⟩:=q7;exact again I7 n7
  | brk=>obtain⟨σ7,H7,I7,q7⟩:=q7;exact⟨σ7,H7,I7.unpinned,q7⟩
  | ret v=>obtain⟨x7,σ7,H7,I7,r7,q7⟩:=q7;exact⟨x7,σ7,H7,I7.unpinned,r7,q7⟩
end
theorem zabu{K:PySem.W.Frag}{a:Addr}{xs:List V}{g:TG}{tb:TS}{D:Ends}{σ:St}{H:Hp}(Pv:Nat->St->Hp->Prop)(h0:Pv 0 σ H)(hl:∀ i σ H,i<=xs.length->Pv i σ H->SqL K H a xs)
    (hs:∀ i x σ H,xs[i]? =some x->Pv i σ H->g x σ H λσ2 H2=>tb { D with nx:=Pv (i+1),ct:=Pv (i+1),bk:=D.nx } σ2 H2) (hd:∀ σ H,Pv xs.length σ H->D.nx σ H) :
    ∃ W:Nat->Nat->St->Hp->Prop,(∃ m,W 0 m σ H)/\∀ i m σ H,W i m σ H →
      ((Itl K a).stop i H/\D.nx σ H)\/((Itl K a).go i H/\∃ N:St->Hp->Prop,(∀ σ' H',N σ' H'->∃ m',m'<m/\W (i+1) m' σ' H')/\∀ x H',(Itl K a).yld i H x H'->g x σ H' λσ2 H2=>tb { D with nx:=N,ct:=N,bk:=D.nx } σ2 H2):=by
  refine⟨λi m σ H=>m=xs.length - i/\i<=xs.length/\Pv i σ H,⟨xs.length,by simp,Nat.zero_le _,h0⟩,?_⟩
  rintro i m σ H ⟨rfl,hi,p⟩
  have q:=hl i σ H hi p
  by_cases hlt:i<xs.length
  · refine .inr ⟨⟨xs,xs[i],q,by simp[hlt]⟩,Pv (i+1),λσ' H' p'=>⟨xs.length - (i+1),by omega,rfl,hlt,p'⟩,λx H' y=> ?_⟩
    obtain⟨e,y⟩:=y
    subst e
    exact hs i x σ _ (y xs q) p
  · have e:i=xs.length:=by omega
    subst e
    exact .inl ⟨⟨xs,q,Nat.le_refl _⟩,hd σ H p⟩
theorem zadz{K:PySem.W.Frag}{a:Addr}{xs:List V}{g:TG}{tb:TS}{D:Ends}{σ:St}{H:Hp}(Pv:Nat->St->Hp->Prop)(h0:Pv 0 σ H)(hl:∀ i σ H,i<=xs.length->Pv i σ H->SqT K H a xs)
    (hs:∀ i x σ H,xs[i]? =some x->Pv i σ H->g x σ H λσ2 H2=>tb { D with nx:=Pv (i+1),ct:=Pv (i+1),bk:=D.nx } σ2 H2) (hd:∀ σ H,Pv xs.length σ H->D.nx σ H) :
    ∃ W:Nat->Nat->St->Hp->Prop,(∃ m,W 0 m σ H)/\∀ i m σ H,W i m σ H →
      ((Itt K a).stop i H/\D.nx σ H)\/((Itt K a).go i H/\∃ N:St->Hp->Prop,(∀ σ' H',N σ' H'->∃ m',m'<m/\W (i+1) m' σ' H')/\∀ x H',(Itt K a).yld i H x H'->g x σ H' λσ2 H2=>tb { D with nx:=N,ct:=N,bk:=D.nx } σ2 H2):=by
  refine⟨λi m σ H=>m=xs.length - i/\i<=xs.length/\Pv i σ H,⟨xs.length,by simp,Nat.zero_le _,h0⟩,?_⟩
  rintro i m σ H ⟨rfl,hi,p⟩
  have q:=hl i σ H hi p
  by_cases hlt:i<xs.length
  · refine .inr ⟨⟨xs,xs[i],q,by simp[hlt]⟩,Pv (i+1),λσ' H' p'=>⟨xs.length - (i+1),by omega,rfl,hlt,p'⟩,λx H' y=> ?_⟩
    obtain⟨e,y⟩:=y
    subst e
    exact hs i x σ _ (y xs q) p
  · have e:i=xs.length:=by omega
    subst e
    exact .inl ⟨⟨xs,q,Nat.le_refl _⟩,hd σ H p⟩
theorem zzx{lo:Int}{n:Nat}{g:TG}{tb:TS}{D:Ends}{σ:St}{H:Hp}(Pv:Nat->St->Hp->Prop)(h0:Pv 0 σ H)
    (hs:∀ i σ H,i<n->Pv i σ H->g (.int (lo+i)) σ H λσ2 H2=>tb { D with nx:=Pv (i+1),ct:=Pv (i+1),bk:=D.nx } σ2 H2) (hd:∀ σ H,Pv n σ H->D.nx σ H) :
    ∃ W:Nat->Nat->St->Hp->Prop,(∃ m,W 0 m σ H)/\∀ i m σ H,W i m σ H →
      ((Itr lo n).stop i H/\D.nx σ H)\/((Itr lo n).go i H/\∃ N:St->Hp->Prop,(∀ σ' H',N σ' H'->∃ m',m'<m/\W (i+1) m' σ' H')/\∀ x H',(Itr lo n).yld i H x H'->g x σ H' λσ2 H2=>tb { D with nx:=N,ct:=N,bk:=D.nx } σ2 H2):=by
  refine⟨λi m σ H=>m=n - i/\i<=n/\Pv i σ H,⟨n,by simp,Nat.zero_le _,h0⟩,?_⟩
  rintro i m σ H ⟨rfl,hi,p⟩
  by_cases hlt:i<n
  · refine .inr ⟨hlt,Pv (i+1),λσ' H' p'=>⟨n - (i+1),by omega,rfl,hlt,p'⟩,λx H' y=> ?_⟩
    obtain⟨e,y⟩:=y
    subst e y
    exact hs i σ _ hlt p
  · have e:i=n:=by omega
    subst e
    exact .inl ⟨Nat.le_refl _,hd σ H p⟩
end L2
namespace L2
open PySem PySem.Spec PyProof.Rows
abbrev R2:=V->V->Hp->VK->Prop
def OpR (X:Cx) (f:Value->Value->Sem Value) (r:R2):Prop :=
  ∀ (pins:List (Addr × Obj)) (s:Shared) (σ:St) (H:Hp) (x y:V) (v u:Value) (Q:VK),Inv X pins σ H s->RelV x v->RelV y u->r x y H Q →
    wpAny (model X.prog X.w) X.A (f v u) (EP X pins σ Q) X.xe s
def UnR (X:Cx) (f:Value->Sem Value) (r:V->Hp->VK->Prop):Prop :=
  ∀ (pins:List (Addr × Obj)) (s:Shared) (σ:St) (H:Hp) (x:V) (v:Value) (Q:VK),Inv X pins σ H s->RelV x v->r x H Q →
    wpAny (model X.prog X.w) X.A (f v) (EP X pins σ Q) X.xe s
def CallR (X:Cx) (f:Value) (r:List V->Hp->VK->Prop):Prop :=
  ∀ (pins:List (Addr × Obj)) (s:Shared) (σ:St) (H:Hp) (xs:List V) (us:List Value) (Q:VK),Inv X pins σ H s->Vals xs us->r xs H Q →
    wpAny (model X.prog X.w) X.A (call f us) (EP X pins σ Q) X.xe s
def TruR (X:Cx) (r:V->Hp->(Bool->Hp->Prop)->Prop):Prop :=
  ∀ (pins:List (Addr × Obj)) (s:Shared) (σ:St) (H:Hp) (x:V) (v:Value) (Q:Bool->Hp->Prop),Inv X pins σ H s->RelV x v->r x H Q →
    wpAny (model X.prog X.w) X.A (truthy v) (TP X pins σ Q) X.xe s
def tOp(r:R2)(ta tb:TE):TE:=λσ H Q=>ta σ H λx H1=>tb σ H1 λy H2=>r x y H2 Q
def tUn(r:V->Hp->VK->Prop)(ta:TE):TE:=λσ H Q=>ta σ H λx H1=>r x H1 Q
def rI(C:Int->Int->Prop)(g:Int->Int->V):R2:=λx y H Q=>∃ i j,x=.int i/\y=.int j/\C i j/\Q (g i j) H
def rI0(g:Int->Int->V):R2:=λx y H Q=>∃ i j,x=.int i/\y=.int j/\Q (g i j) H
def rU(g:Int->V):V->Hp->VK->Prop:=λx H Q=>∃ i,x=.int i/\Q (g i) H
section
variable{X:Cx}{a b c:Expr}{ta tb tc:TE}{pos:Pos}
theorem binT(ha:PE X a ta)(hb:PE X b tb){pins:List (Addr × Obj)}{s:Shared}{σ:St}{H:Hp}{R:V->V->Hp->Prop}(I:Inv X pins σ H s)
  (h:ta σ H λx H1=>tb σ H1 λy H2=>R x y H2) {Q:Value->Shared->Prop} {f:Value->Value->Sem Value}
  (hf:∀ v u s2 x y H2,Inv X pins σ H2 s2->RelV x v->RelV y u->R x y H2->wpAny (model X.prog X.w) X.A (f v u) Q X.xe s2) :
  wpAny (model X.prog X.w) X.A (eval a X.env) (λv s₁=>wpAny (model X.prog X.w) X.A (eval b X.env) (λu s₂=>wpAny (model X.prog X.w) X.A (f v u) Q X.xe s₂) X.xe s₁) X.xe s:=by
 refine thn (ha pins s σ H _ I h) λv s1 ⟨x,H1,I1,r1,q1⟩=> ?_
 refine thn (hb pins s1 σ H1 _ I1 q1) λu s2 ⟨y,H2,I2,r2,q2⟩=> ?_
 exact hf v u s2 x y H2 I2 r1 r2 q2
theorem za7{op:Operator}{r:R2}(ho:OpR X (binaryOp op) r)(ha:PE X a ta)(hb:PE X b tb):PE X (.BinOp a op b pos) (tOp r ta tb):=by
 intro pins s σ H Q I h
 exact wpAny_BinOp (binT ha hb I h λv u s2 x y H2 I2 rx ry q=>ho pins s2 σ H2 x y v u Q I2 rx ry q)
theorem zaia{op:UnaryOp}{r:V->Hp->VK->Prop}(ho:UnR X (unaryOp op) r)(ha:PE X a ta):PE X (.UnaryOp op a pos) (tUn r ta):=by
 intro pins s σ H Q I h
 exact UnaryOp_ (thn (ha pins s σ H _ I h) λv s1 ⟨x,H1,I1,r1,q1⟩=>ho pins s1 σ H1 x v Q I1 r1 q1)
theorem opI{f:Value->Value->Sem Value}{C:Int->Int->Prop}{g:Int->Int->Int}
  (rule:∀ (i j:Int) (t u:Tok) (s:Shared) (Q:Value->Shared->Prop) (E:Value->Shared->Prop),C i j->Q (.int (g i j) s.toks) { s with toks:=s.toks+1 }->wpAny (model X.prog X.w) X.A (f (.int i t) (.int j u)) Q E s) :
  OpR X f (rI C λi j=>.int (g i j)):=by
 intro pins s σ H x y v u Q I rx ry h
 obtain⟨i,j,rfl,rfl,hc,q⟩:=h
 obtain⟨t,rfl⟩:=rx
 obtain⟨t',rfl⟩:=ry
 exact rule i j t t' s _ _ hc ⟨.int (g i j),H,I.tok _,⟨_,rfl⟩,q⟩
theorem opI0{f:Value->Value->Sem Value}{g:Int->Int->Int}
  (rule:∀ (i j:Int) (t u:Tok) (s:Shared) (Q:Value->Shared->Prop) (E:Value->Shared->Prop),Q (.int (g i j) s.toks) { s with toks:=s.toks+1 }->wpAny (model X.prog X.w) X.A (f (.int i t) (.int j u)) Q E s) :
  OpR X f (rI0 λi j=>.int (g i j)):=by
 intro pins s σ H x y v u Q I rx ry h
 obtain⟨i,j,rfl,rfl,q⟩:=h
 obtain⟨t,rfl⟩:=rx
 obtain⟨t',rfl⟩:=ry
 exact rule i j t t' s _ _ ⟨.int (g i j),H,I.tok _,⟨_,rfl⟩,q⟩
theorem opB0{f:Value->Value->Sem Value}{g:Int->Int->Bool}
  (rule:∀ (i j:Int) (t u:Tok) (s:Shared) (Q:Value->Shared->Prop) (E:Value->Shared->Prop),Q (.bool (g i j)) s->wpAny (model X.prog X.w) X.A (f (.int i t) (.int j u)) Q E s) :
  OpR X f (rI0 λi j=>.bl (g i j)):=by
 intro pins s σ H x y v u Q I rx ry h
 obtain⟨i,j,rfl,rfl,q⟩:=h
 obtain⟨t,rfl⟩:=rx
 obtain⟨t',rfl⟩:=ry
 exact rule i j t t' s _ _ ⟨.bl (g i j),H,I,rfl,q⟩
def CDiv(i j:Int):Prop:=0<j/\j<1073741824
def CPow(i j:Int):Prop:=0<=j/\j<=1000000/\i.natAbs<2 ^ 64
def CMul(i j:Int):Prop:=(-(2 ^ 64)<i/\i<2 ^ 64)\/(-(2 ^ 64)<j/\j<2 ^ 64)
theorem CMul.ok{i j:Int}(h:CMul i j):IntMulOk i j:=by
 rcases h with⟨h1,h2⟩ | ⟨h1,h2⟩
 ·exact .of_left (intBits_le_64 h1 h2)
 ·exact .of_right (intBits_le_64 h1 h2)
theorem zagc:OpR X (binaryOp .Add) (rI0 λi j=>.int (i+j)):=opI0 λ_ _ _ _ _ _ _ q=>add_int q
theorem zagd:OpR X (binaryOp .Mult) (rI CMul λi j=>.int (i * j)):=opI λ_ _ _ _ _ _ _ hc q=>mul_int q hc.ok
theorem zg8:OpR X (binaryOp .FloorDiv) (rI CDiv λi j=>.int (i / j)):=opI λi j _ _ _ _ _ hc q=>by
 have h1:(0:Int)<j:=hc.1
 have h2:j<1073741824:=hc.2
 exact floordiv_int (by omega) (by rw[Int.fdiv_eq_ediv_of_nonneg i (by omega)];exact q) (.inl (PyProof.noPylong_small (by omega)))
theorem zdh:OpR X (binaryOp .Mod) (rI (λ_ j=>0<j) λi j=>.int (i % j)):=opI λi j _ _ _ _ _ hc q=>by
 have h1:(0:Int)<j:=hc
 exact mod_int' (by omega) (by rw[Int.fmod_eq_emod_of_nonneg i (by omega)];exact q)
theorem unI{f:Value->Sem Value}{g:Int->Int}
  (rule:∀ (i:Int) (t:Tok) (s:Shared) (Q:Value->Shared->Prop) (E:Value->Shared->Prop),Q (.int (g i) s.toks) { s with toks:=s.toks+1 }->wpAny (model X.prog X.w) X.A (f (.int i t)) Q E s) :
  UnR X f (rU λi=>.int (g i)):=by
 intro pins s σ H x v Q I rx h
 obtain⟨i,rfl,q⟩:=h
 obtain⟨t,rfl⟩:=rx
 exact rule i t s _ _ ⟨.int (g i),H,I.tok _,⟨_,rfl⟩,q⟩
theorem zage:UnR X (unaryOp .USub) (rU λi=>.int (-i)):=unI λ_ _ _ _ _ q=>neg_int q
end
def scal:V->V->Bool
 | .non,.non=>true | .non,.int _=>true | .int _,.non=>true | .non,.bl _=>true | .bl _,.non=>true | .non,.str _=>true | .str _,.non=>true
 | .int _,.int _=>true | .bl _,.bl _=>true | .str _,.str _=>true | .byt _,.byt _=>true
 | .int _,.str _=>true | .str _,.int _=>true | .bl _,.str _=>true | .str _,.bl _=>true
 | _,_=>false
def rEq:R2:=λx y H Q=>scal x y=true/\Q (.bl (decide (x=y))) H
def rNe:R2:=λx y H Q=>scal x y=true/\Q (.bl (!decide (x=y))) H
theorem zzy{i j:Int}:decide (V.int i=V.int j)=(i == j):=by
 rw[Bool.eq_iff_iff]
 simp
theorem zadh{i j:Bool}:decide (V.bl i=V.bl j)=(i == j):=by
 rw[Bool.eq_iff_iff]
 simp
theorem zzz{i j:Str}:decide (V.str i=V.str j)=(i == j):=by
 rw[Bool.eq_iff_iff]
 simp
theorem zz0{i j:Array UInt8}:decide (V.byt i=V.byt j)=(i.toList == j.toList):=by
 rw[Bool.eq_iff_iff]
 cases i
 cases j
 simp
section
variable{X:Cx}{a b c:Expr}{ta tb tc:TE}{pos:Pos}
theorem zcs{pins:List (Addr × Obj)}{σ:St}{H:Hp}{s:Shared}{Q:VK}{k k':Bool}(I:Inv X pins σ H s)(q:Q (.bl k) H)(e:k=k'):EP X pins σ Q (.bool k') s:=by
 subst e
 exact⟨.bl k,H,I,rfl,q⟩
theorem zaib:OpR X (compareOp .Eq) rEq:=by
  intro pins s σ H x y v u Q I rx ry h
  obtain⟨hs,q⟩:=h
  cases x with
  | non =>
    cases rx
    cases y with
    | non=>cases ry;exact PySem.EqNone.eq_none_none (zcs I q (by simp))
    | bl j=>cases ry;exact PySem.EqNone.eq_none_bool (zcs I q (by simp))
    | int j=>obtain⟨t',rfl⟩:=ry;exact PySem.EqNone.eq_none_int (zcs I q (by simp))
    | str j=>obtain⟨t',rfl⟩:=ry;exact PySem.EqNone.eq_none_str (zcs I q (by simp))
    | _=>exact absurd (show false=true from hs) Bool.false_ne_true
  | bl i =>
    cases rx
    cases y with
    | non=>cases ry;exact PySem.EqNone.eq_bool_none (zcs I q (by simp))
    | bl j=>cases ry;exact eq_bool (zcs I q zadh)
    | str j=>obtain⟨t',rfl⟩:=ry;exact PySem.EqMixed.eq_bool_str (zcs I q (by simp))
    | _=>exact absurd (show false=true from hs) Bool.false_ne_true
  | int i =>
    obtain⟨t,rfl⟩:=rx
    cases y with
    | non=>cases ry;exact PySem.EqNone.eq_int_none (zcs I q (by simp))
    | int j=>obtain⟨t',rfl⟩:=ry;exact eq_int (zcs I q zzy)
    | str j=>obtain⟨t',rfl⟩:=ry;exact PySem.EqMixed.eq_int_str (zcs I q (by simp))
    | _=>exact absurd (show false=true from hs) Bool.false_ne_true
  | str i =>
    obtain⟨t,rfl⟩:=rx
    cases y with
    | non=>cases ry;exact PySem.EqNone.eq_str_none (zcs I q (by simp))
    | bl j=>cases ry;exact PySem.EqMixed.eq_str_bool (zcs I q (by simp))
    | int j=>obtain⟨t',rfl⟩:=ry;exact PySem.EqMixed.eq_str_int (zcs I q (by simp))
    | str j=>obtain⟨t',rfl⟩:=ry;exact eq_str (zcs I q zzz)
    | _=>exact absurd (show false=true from hs) Bool.false_ne_true
  | byt i =>
    obtain⟨t,rfl⟩:=rx
    cases y with
    | byt j=>obtain⟨t',rfl⟩:=ry;exact PySem.W.eq_bytes (zcs I q zz0)
    | _=>exact absurd (show false=true from hs) Bool.false_ne_true
  | _=>cases y<;>exact absurd (show false=true from hs) Bool.false_ne_true
theorem zaic:OpR X (compareOp .NotEq) rNe:=by
  intro pins s σ H x y v u Q I rx ry h
  obtain⟨hs,q⟩:=h
  cases x with
  | non =>
    cases rx
    cases y with
    | non=>cases ry;exact PySem.EqNone.ne_none_none (zcs I q (by simp))
    | bl j=>cases ry;exact PySem.EqNone.ne_none_bool (zcs I q (by simp))
    | int j=>obtain⟨t',rfl⟩:=ry;exact PySem.EqNone.ne_none_int (zcs I q (by simp))
    | str j=>obtain⟨t',rfl⟩:=ry;exact PySem.EqNone.ne_none_str (zcs I q (by simp))
    | _=>exact absurd (show false=true from hs) Bool.false_ne_true
  | bl i =>
    cases rx
    cases y with
    | non=>cases ry;exact PySem.EqNone.ne_bool_none (zcs I q (by simp))
    | bl j=>cases ry;exact ne_bool (zcs I q (congrArg not zadh))
    | str j=>obtain⟨t',rfl⟩:=ry;exact PySem.EqMixed.ne_bool_str (zcs I q (by simp))
    | _=>exact absurd (show false=true from hs) Bool.false_ne_true
  | int i =>
    obtain⟨t,rfl⟩:=rx
    cases y with
    | non=>cases ry;exact PySem.EqNone.ne_int_none (zcs I q (by simp))
    | int j=>obtain⟨t',rfl⟩:=ry;exact ne_int (zcs I q (congrArg not zzy))
    | str j=>obtain⟨t',rfl⟩:=ry;exact PySem.EqMixed.ne_int_str (zcs I q (by simp))
    | _=>exact absurd (show false=true from hs) Bool.false_ne_true
  | str i =>
    obtain⟨t,rfl⟩:=rx
    cases y with
    | non=>cases ry;exact PySem.EqNone.ne_str_none (zcs I q (by simp))
    | bl j=>cases ry;exact PySem.EqMixed.ne_str_bool (zcs I q (by simp))
    | int j=>obtain⟨t',rfl⟩:=ry;exact PySem.EqMixed.ne_str_int (zcs I q (by simp))
    | str j=>obtain⟨t',rfl⟩:=ry;exact ne_str (zcs I q (congrArg not zzz))
    | _=>exact absurd (show false=true from hs) Bool.false_ne_true
  | byt i =>
    obtain⟨t,rfl⟩:=rx
    cases y with
    | byt j=>obtain⟨t',rfl⟩:=ry;exact PySem.W.ne_bytes (zcs I q (congrArg not zz0))
    | _=>exact absurd (show false=true from hs) Bool.false_ne_true
  | _=>cases y<;>exact absurd (show false=true from hs) Bool.false_ne_true
theorem zaid:OpR X (compareOp .Lt) (rI0 λi j=>.bl (decide (i<j))):=opB0 λ_ _ _ _ _ _ _ q=>lt_int q
theorem zaie:OpR X (compareOp .LtE) (rI0 λi j=>.bl (decide (i<=j))):=opB0 λ_ _ _ _ _ _ _ q=>le_int q
theorem zaif:OpR X (compareOp .Gt) (rI0 λi j=>.bl (decide (j<i))):=opB0 λ_ _ _ _ _ _ _ q=>gt_int q
theorem zx1:OpR X (compareOp .Is) (λx y H Q=>y=.non/\Q (.bl (decide (x=.non))) H):=by
 intro pins s σ H x y v u Q I rx ry h
 obtain⟨rfl,q⟩:=h
 cases ry
 refine is_none_gen (zcs I q ?_)
 cases x<;>first
  | (cases rx;rfl)
  | (obtain⟨t,rfl⟩:=rx;rfl)
theorem OpR.or{f:Value->Value->Sem Value}{r r':R2}(h:OpR X f r)(h':OpR X f r'):OpR X f (λx y H Q=>r x y H Q\/r' x y H Q):=by
 intro pins s σ H x y v u Q I rx ry q
 rcases q with q | q
 ·exact h pins s σ H x y v u Q I rx ry q
 ·exact h' pins s σ H x y v u Q I rx ry q
theorem zcx(b:Expr){op:CmpOp}(h:op≠.In:=by decide)(h2:op≠.NotIn:=by decide):behindInMarks op b=false:=by
 have e1:(op == CmpOp.In)=false:=by cases op<;>first | rfl | exact absurd rfl h
 have e2:(op == CmpOp.NotIn)=false:=by cases op<;>first | rfl | exact absurd rfl h2
 cases b<;>simp[behindInMarks,e1,e2]
theorem zwp{op:CmpOp}{r:R2}(ho:OpR X (compareOp op) r)(ha:PE X a ta)(hb:PE X b tb)(hm:behindInMarks op b=false):PE X (.Compare a [op] [b] pos) (tOp r ta tb):=by
 intro pins s σ H Q I h
 exact wpAny_Compare1 (binT ha hb I h λv u s2 x y H2 I2 rx ry q=>ho pins s2 σ H2 x y v u Q I2 rx ry q) hm
def zen(t:TE):TT:=λσ H Q=>t σ H λx H'=>∃ k,x=.bl k/\Q k H'
theorem zby{op:CmpOp}{r:R2}(ho:OpR X (compareOp op) r)(ha:PE X a ta)(hb:PE X b tb)(hm:behindInMarks op b=false):PT X (.Compare a [op] [b] pos) (zen (tOp r ta tb)):=by
 intro pins s σ H Q I h
 refine wpAny_isTrue_Compare1 (thn (ha pins s σ H _ I h) λv s1 ⟨x,H1,I1,r1,q1⟩=>thn (hb pins s1 σ H1 _ I1 q1) λu s2 ⟨y,H2,I2,r2,q2⟩ =>
  thn (ho pins s2 σ H2 x y v u _ I2 r1 r2 q2) λc s3 ⟨z,H3,I3,r3,k,e,q3⟩=> ?_) hm
 subst e
 cases r3
 exact wpAny_truthy_bool ⟨H3,I3,q3⟩
def zsu(r r':R2)(ta tb tc:TE):TE:=λσ H Q=>ta σ H λx H1=>tb σ H1 λy H2=>r x y H2 λz H3=>∃ k,z=.bl k ∧
 (if k=true then tc σ H3 λw' H4=>r' y w' H4 Q else Q (.bl false) H3)
theorem zp6{op op':CmpOp}{r r':R2}(ho:OpR X (compareOp op) r)(ho':OpR X (compareOp op') r')(ha:PE X a ta)(hb:PE X b tb)(hc:PE X c tc)
    (hm:lastMarks [op,op'] [b,c]=false:=by with_unfolding_all rfl):PT X (.Compare a [op,op'] [b,c] pos) (zen (zsu r r' ta tb tc)):=by
  intro pins s σ H Q I h
  refine isTrue_chain (thn (ha pins s σ H _ I h) λv s1 ⟨x,H1,I1,r1,q1⟩=>test_link (thn (hb pins s1 σ H1 _ I1 q1) λu s2 ⟨y,H2,I2,r2,q2⟩ =>
    thn (ho pins s2 σ H2 x y v u _ I2 r1 r2 q2) λd s3 ⟨z,H3,I3,r3,k,e,q3⟩=> ?_)) hm
  subst e
  cases r3
  refine wpAny_truthy_bool ?_
  cases k with
  | false =>
    obtain⟨k',e',q'⟩:=q3
    cases e'
    exact ite_ff ⟨H3,I3,q'⟩
  | true =>
    refine ite_tt (test_last (thn (hc pins s3 σ H3 _ I3 q3) λw' s4 ⟨z',H4,I4,r4,q4⟩=>thn (ho' pins s4 σ H4 y z' u w' _ I4 r2 r4 q4) λd' s5 ⟨z2,H5,I5,r5,k2,e2,q5⟩=> ?_))
    subst e2
    cases r5
    exact wpAny_truthy_bool ⟨H5,I5,q5⟩
def TruV(K:PySem.W.Frag)(x:V)(H:Hp)(k:Bool):Prop :=
 match x with
 | .non=>k=false
 | .bl b=>k=b
 | .int i=>k=(i != 0)
 | .str y=>y.length<=sizeLine/\k=((y.length:Int) != 0)
 | .byt y=>y.size<=sizeLine/\k=((y.size:Int) != 0)
 | .ref p=>(∃ xs,SqL K H p xs/\k= !xs.isEmpty)\/(∃ xs,SqT K H p xs/\k= !xs.isEmpty)\/∃ kvs,H p=some (.dK kvs)/\k= !kvs.isEmpty
 | _=>False
theorem zyz{κ :Type}{kvs:List (κ × V)}{vs:List (κ × Value)}(r:KV kvs vs):(!vs.isEmpty)= !kvs.isEmpty:=by
 cases r<;>rfl
theorem zsv{xs:List V}{its:List Value}(r:Vals xs its):(!its.toArray.isEmpty)= !xs.isEmpty:=by
 cases r<;>simp
theorem zsw:(sizeLine:Nat)<2 ^ 63:=by rw[sizeLine_eq];decide
theorem zadi:TruR X (λx H Q=>∃ k,TruV X.K x H k/\Q k H):=by
  intro pins s σ H x v Q I rx h
  obtain⟨k,e,q⟩:=h
  have hl:=zsw
  have hs:sizeLine=16777216:=sizeLine_eq
  cases x with
  | non =>
    cases rx
    have e':k=false:=e
    subst e'
    exact truthy_none ⟨H,I,q⟩
  | bl b =>
    cases rx
    have e':k=b:=e
    subst e'
    exact wpAny_truthy_bool ⟨H,I,q⟩
  | int i =>
    obtain⟨t,rfl⟩:=rx
    have e':k=(i != 0):=e
    subst e'
    exact PySem.P.truthy_int ⟨H,I,q⟩
  | str y =>
    obtain⟨t,rfl⟩:=rx
    obtain⟨hy,e'⟩:y.length<=sizeLine/\k=((y.length:Int) != 0):=e
    subst e'
    exact PySem.P.truthy_str (by omega) ⟨H,I.tok _,q⟩
  | byt y =>
    obtain⟨t,rfl⟩:=rx
    obtain⟨hy,e'⟩:y.size<=sizeLine/\k=((y.size:Int) != 0):=e
    subst e'
    exact PySem.W.truthy_bytes (by omega) ⟨H,I.tok _,q⟩
  | ref p =>
    cases rx
    have e':(∃ xs,SqL X.K H p xs/\k= !xs.isEmpty)\/(∃ xs,SqT X.K H p xs/\k= !xs.isEmpty)\/∃ kvs,H p=some (.dK kvs)/\k= !kvs.isEmpty:=e
    rcases e' with⟨xs,hx,e'⟩ | ⟨xs,hx,e'⟩ | ⟨kvs,hx,e'⟩
    · subst e'
      obtain⟨its,r,pl,hz⟩:=I.list hx
      have hlen:=r.length
      exact wpAny_truthy_list pl.isList (by simp only[List.size_toArray];omega) ⟨H,I.tok _,by rw[zsv r];exact q⟩
    · subst e'
      obtain⟨its,r,pl,hz⟩:=I.tuple hx
      have hlen:=r.length
      exact truthy_tuple pl (by simp only[List.size_toArray];omega) ⟨H,I.tok _,by rw[zsv r];exact q⟩
    · subst e'
      obtain⟨hz,hS,vs,r,m⟩:kvs.length<=sizeLine/\(p == sysModules)=false/\∃ vs,KV kvs vs/\s.heap.DictOf (zdt X.prog X.w) p vs:=I.hok p _ hx
      have hlen:kvs.length=vs.length:=Paired.length r
      exact wpAny_truthy_dict hS m (by omega) ⟨H,I.tok _,by rw[zyz r];exact q⟩
  | _=>exact(show False from e).elim
theorem ztf(ha:PE X a ta)(he:∀ whole,isTrue a X.env whole=(do let v ← whole;standAt a.pos;holding [v] (truthy v))) :
  PT X a (λσ H Q=>ta σ H λx H'=>∃ k,TruV X.K x H' k/\Q k H'):=by
 intro pins s σ H Q I h
 exact isTrue_plain (thn (ha pins s σ H _ I h) λv s1 ⟨x,H1,I1,r1,q1⟩=>zadi pins s1 σ H1 x v Q I1 r1 q1) (he _)
theorem zy0:OpR X (binaryOp .Add) (λx y H Q=>∃ i j,x=.str i/\y=.str j/\i.length+j.length<=sizeLine/\Q (.str (i++j)) H):=by
 intro pins s σ H x y v u Q I rx ry h
 obtain⟨i,j,rfl,rfl,hz,q⟩:=h
 obtain⟨t,rfl⟩:=rx
 obtain⟨t',rfl⟩:=ry
 exact add_str (λt' tk=>⟨.str (i++j),H,I.tok _,⟨_,rfl⟩,q⟩) hz
theorem zwq{x:V}{us:List Value}(r:Vals [x] us):∃ u,us=[u]/\RelV x u:=by
 cases r with
 | cons r1 r2=>cases r2;exact⟨_,rfl,r1⟩
def LenV(K:PySem.W.Frag)(x:V)(H:Hp)(n:Nat):Prop :=
 match x with
 | .str y=>y.length<=sizeLine/\n=y.length
 | .byt y=>y.size<=sizeLine/\n=y.size
 | .ref p=>(∃ xs,SqL K H p xs/\n=xs.length)\/∃ xs,SqT K H p xs/\n=xs.length
 | _=>False
theorem zabv:CallR X (.builtin "len") (λxs H Q=>∃ x n,xs=[x]/\LenV X.K x H n/\Q (.int n) H):=by
  intro pins s σ H xs us Q I r h
  obtain⟨x,n,rfl,e,q⟩:=h
  obtain⟨u,rfl,rx⟩:=zwq r
  have hl:=zsw
  have hs:sizeLine=16777216:=sizeLine_eq
  cases x with
  | str y =>
    obtain⟨t,rfl⟩:=rx
    obtain⟨hy,e'⟩:y.length<=sizeLine/\n=y.length:=e
    subst e'
    exact len_str (by omega) ⟨.int _,H,I.tok _,⟨_,rfl⟩,q⟩
  | byt y =>
    obtain⟨t,rfl⟩:=rx
    obtain⟨hy,e'⟩:y.size<=sizeLine/\n=y.size:=e
    subst e'
    exact PySem.W.len_bytes (by omega) ⟨.int _,H,I.tok _,⟨_,rfl⟩,q⟩
  | ref p =>
    cases rx
    have e':(∃ xs,SqL X.K H p xs/\n=xs.length)\/∃ xs,SqT X.K H p xs/\n=xs.length:=e
    rcases e' with⟨xs,hx,e'⟩ | ⟨xs,hx,e'⟩
    · subst e'
      obtain⟨its,r',pl,hz⟩:=I.list hx
      have hlen:=r'.length
      exact Calls.call_len_list pl.isList (by simp only[List.size_toArray];omega) ⟨.int xs.length,H,I.tok _,⟨_,by simp only[List.size_toArray];rw[hlen]⟩,q⟩
    · subst e'
      obtain⟨its,r',pl,hz⟩:=I.tuple hx
      have hlen:=r'.length
      exact len_tuple pl (by simp only[List.size_toArray];omega) ⟨.int xs.length,H,I.tok _,⟨_,by simp only[List.size_toArray];rw[hlen]⟩,q⟩
  | _=>exact(show False from e).elim
end
end L2
namespace L2
open PySem PySem.Spec PyProof.Rows
structure ObjM(h:Heap)(x dx C:Addr)(mA:Str->Option Value):Prop where
 obj:h.get? x=some (PySem.W.instObj C dx)
 ns:h.Ns1 dx mA
 ne:dx≠x
theorem zz1{h:Heap}{dx:Addr}{mA:Str->Option Value}(n:h.Ns1 dx mA):∃ od,h.get? dx=some od/\∀ name,PySem.W.lookIn name od=some (mA name):=by
 obtain⟨o,es,ep,ho,hd,hk,_,hm⟩:=n
 refine⟨o,ho,λname=> ?_⟩
 have e:=hm name
 unfold nsFind findBy at e
 rw[<-Array.find?_toList]at e
 unfold PySem.W.lookIn
 rw[hd]
 dsimp only
 split
 ·rename_i y q
  rw[q]at e
  exact congrArg some e
 ·rename_i q
  rw[q]at e
  have a:es.toList.any (·.refKey)=false:=by
   rw[List.any_eq_false]
   intro y hy
   obtain⟨z,t,hkey⟩:=hk y (Array.mem_toList_iff.mp hy)
   simp[DictEntry.refKey,hkey]
  have a':¬ es.toList.any (·.refKey)=true:=by rw[a];exact Bool.false_ne_true
  rw[if_neg a']
  exact congrArg some e
theorem ObjM.look{h:Heap}{x dx C:Addr}{mA:Str->Option Value}(I:ObjM h x dx C mA):∃ od,PySem.W.InstAt h x (PySem.W.instObj C dx) C (some od)/\∀ name,PySem.W.lookIn name od=some (mA name) :=
 let ⟨od,ho,hl⟩:=zz1 I.ns
 ⟨od,⟨I.obj,rfl,rfl,ho⟩,hl⟩
section
variable{prog:Program}{w:World}{A:Around}{E:Value->Shared->Prop}{s:Shared}{K:PySem.W.Frag}{x dx C f:Addr}{mA:Str->Option Value}{name:Str}{v:Value}
theorem zad0{expr:Bool}{Q:Value->Shared->Prop}(X:K.In s.heap)(I:ObjM s.heap x dx C mA)(hg:PySem.W.plainGet K C name=true)(hh:PySem.W.hasDictIn K C=true)
  (ha:PySem.W.findIn K (.ref C) name=some none) (hv:mA name=some v) (hv':PySem.W.handedIn v=true) (h:Q v { s with toks:=s.toks+1 }) :
  wpAny (model prog w) A (getAttr (.ref x) name expr) Q E s:=by
 obtain⟨od,J,hl⟩:=I.look
 exact PySem.W.get_value X J (PySem.W.plainGet_of hg).1 (PySem.W.findObj_own hh ha rfl (by rw[hl,hv])) hv' h
theorem zabw{pl:Sem Bool}{Q:Value × List Value->Shared->Prop}(X:K.In s.heap)(I:ObjM s.heap x dx C mA)(hg:PySem.W.plainGet K C name=true)
  (hf:PySem.W.findIn K (.ref C) name=some (some (.ref f))) (ht:PySem.W.isFn K (.ref f)=true) (hv:mA name=none) (h:Q (.ref f,[.ref x]) s) :
  wpAny (model prog w) A (getMethod (.ref x) name pl) Q E s:=by
 obtain⟨od,J,hl⟩:=I.look
 exact PySem.W.method_fn X J (PySem.W.plainGet_of hg).1 (PySem.W.plainGet_of hg).2 hf (beq_iff_eq.mp ht) (by show(PySem.W.lookIn name od).map (·.isSome)=some false;rw[hl,hv];rfl) h
theorem zad1{ns:List Str}{Q:Unit->Shared->Prop}(X:K.In s.heap)(I:ObjM s.heap x dx C mA)
  (hs:PySem.W.findIn K (.ref C) "__setattr__"=some (some (.builtin "object.__setattr__"))) (hp:PySem.W.plainOver K C=true) (ht:PySem.W.takerIn K C name=some none) (hh:PySem.W.hasDictIn K C=true)
  (hw:PySem.Within mA ns) (hsz:ns.length<=sizeLine)
  (h:∀ h',ObjM h' x dx C (λy=>if y=name then some v else mA y)->Heap.SameBut dx s.heap h'->Q () { s with heap:=h',toks:=s.toks+2 }) :
  wpAny (model prog w) A (setAttr (.ref x) name v) Q E s:=by
 obtain⟨od,J,hl⟩:=I.look
 refine PySem.W.set_plain X J hs (PySem.W.osa_open (s:={ s with toks:=s.toks+1 }) (r:=none) X J hp ht λb=> ?_)
 obtain⟨cd,hc,hd'⟩:=PySem.W.any_some hh
 have hx:s.heap.get? x=some ⟨.ref C,some dx,.plain,#[]⟩:=I.obj
 refine wpAny_bind (wpAny_pure (wpAny_bind (wpAny_bind (wpAny_loadPart hx (wpAny_bind (PySem.W.Looks.here (s:={ s with toks:=s.toks+1 }) (PySem.W.looks_clsIn X hc) ?_))))))
 rw[hd']
 refine wpAny_pure (a:=some dx) (wpAny_bind (wpAny_pure (wpAny_bind ?_)))
 refine wpAny_nsSet1 (s:={ s with toks:=s.toks+1 }) I.ns λh' hn2 hs2=> ?_
 obtain⟨oD,esD,epD,hoD,hdD,hcD⟩:=hn2.count (PySem.Within.cons name v hw)
 refine wpAny_bind (wpAny_lookBehind hoD (by rw[hdD];exact pastItsLine_dict (Nat.le_trans hcD (by rw[List.length_cons];omega))) ?_)
 exact wpAny_pure (h _ ⟨(hs2.2 _ (Ne.symm I.ne)).trans I.obj,hn2,I.ne⟩ hs2)
theorem zabx{R:Result->Shared->Prop}{vs:List Value}{kw:List (Str × Value)}(X:K.In s.heap)(hm:PySem.W.makesIn K C=true)
  (hi:PySem.W.findIn K (.ref C) "__init__"=some (some (.ref f))) (hf:PySem.W.typeIn K (.ref f)=some (.type "function"))
  (h:codeAny (model prog w) (A.under (.builtin "type.__call__" ⟨.ref C::vs,kw⟩)) (.call (.ref f) ⟨.ref (s.heap.objs.size+1)::vs,kw⟩) (PySem.W.InitBack (s.heap.objs.size+1) R)
   { s with heap:=(s.heap.push PySem.W.emptyDict).push (PySem.W.instObj C s.heap.objs.size) }) :
  codeAny (model prog w) A (.call (.ref C) ⟨vs,kw⟩) R s:=by
 obtain⟨hh,g,d,t,os⟩:=s
 exact PySem.W.make_core (PySem.W.makes_of X hm) (PySem.W.looks_findIn X hi) (λself=>PySem.W.bind_fn X self hf) (.inl rfl) h
end
def putF(f:Str)(v:V):List (Str × V)->List (Str × V)
 | []=>[(f,v)]
 | (g,x)::r=>if g=f then(g,v)::r else(g,x)::putF f v r
theorem zqf (f g:Str) (v:V):∀ fs:List (Str × V),(putF f v fs).lookup g=if g=f then some v else fs.lookup g
  | []=>by
    show List.lookup g [(f,v)]=_
    by_cases h:g=f
    · have hb:(g == f)=true:=beq_iff_eq.mpr h
      simp only[List.lookup,hb,if_pos h]
    · have hb:(g == f)=false:=beq_eq_false_iff_ne.mpr h
      simp only[List.lookup,hb,if_neg h]
  | (k, x)::r=>by
    have ih:=zqf f g v r
    rw[show putF f v ((k,x)::r)=(if k=f then(k,v)::r else(k,x)::putF f v r)from rfl]
    by_cases hk:k=f
    · rw[if_pos hk]
      by_cases h:g=k
      · have hb:(g == k)=true:=beq_iff_eq.mpr h
        simp only[List.lookup,hb,if_pos (h.trans hk)]
      · have hb:(g == k)=false:=beq_eq_false_iff_ne.mpr h
        simp only[List.lookup,hb,if_neg (λe:g=f=>h (e.trans hk.symm))]
    · rw[if_neg hk]
      by_cases h:g=k
      · have hb:(g == k)=true:=beq_iff_eq.mpr h
        simp only[List.lookup,hb,if_neg (λe:g=f=>hk (h.symm.trans e))]
      · have hb:(g == k)=false:=beq_eq_false_iff_ne.mpr h
        simp only[List.lookup,hb]
        exact ih
theorem zqg (f:Str) (v:V):∀ fs:List (Str × V),f∈(putF f v fs).map (·.1)/\∀ g,g∈fs.map (·.1)->g∈(putF f v fs).map (·.1)
  | []=>⟨by simp[putF],λg h=>by simp at h⟩
  | (k, x)::r=>by
    obtain⟨i1,i2⟩:=zqg f v r
    rw[show putF f v ((k,x)::r)=(if k=f then(k,v)::r else(k,x)::putF f v r)from rfl]
    by_cases hk:k=f
    · rw[if_pos hk]
      subst hk
      exact⟨by simp,λg h=>by simpa using h⟩
    · rw[if_neg hk]
      refine⟨?_,λg h=> ?_⟩
      · rw[List.map_cons]
        exact List.mem_cons_of_mem _ i1
      · rw[List.map_cons]at h ⊢
        rcases List.mem_cons.mp h with e | e
        ·exact List.mem_cons.mpr (.inl e)
        ·exact List.mem_cons_of_mem _ (i2 g e)
theorem zic(f:Str)(v:V):∀ fs:List (Str × V),(putF f v fs).length<=fs.length+1
  | []=>by simp[putF]
  | (k,x)::r=>by
    have ih:=zic f v r
    rw[show putF f v ((k,x)::r)=(if k=f then(k,v)::r else(k,x)::putF f v r)from rfl]
    by_cases hk:k=f
    ·rw[if_pos hk,List.length_cons,List.length_cons];omega
    ·rw[if_neg hk,List.length_cons,List.length_cons];omega
theorem RelO.some_of{v:V}{o:Option Value}(r:RelO (some v) o):∃ u,o=some u/\RelV v u:=by
 cases o with
 | none=>exact(show False from r).elim
 | some u=>exact⟨u,rfl,r⟩
theorem RelO.none_of{o:Option Value}(r:RelO none o):o=none:=by
 cases o with
 | none=>rfl
 | some u=>exact(show False from r).elim
theorem zz2{v:V}{u:Value}(r:RelV v u):PySem.W.handedIn u=true:=by
 cases v with
 | non=>cases (show u=Value.none from r);rfl
 | bl b=>cases (show u=Value.bool b from r);rfl
 | int i=>obtain⟨t,e⟩:=(show ∃ t,u=Value.int i t from r);cases e;rfl
 | str x=>obtain⟨t,e⟩:=(show ∃ t,u=Value.str x t from r);cases e;rfl
 | byt b=>obtain⟨t,e⟩:=(show ∃ t,u=Value.bytes b t from r);cases e;rfl
 | flt b=>obtain⟨t,e⟩:=(show ∃ t,u=Value.float b t from r);cases e;rfl
 | ref a=>cases (show u=Value.ref a from r);rfl
 | ty n=>cases (show u=Value.type n from r);rfl
section
variable{P:Program}{w:World}{H H':Hp}{h h':Heap}{a C dx:Addr}{fs fs':List (Str × V)}
theorem ztg(hok:HOk P w H h)(e:H a=some (.ins C dx fs)):∃ mA,ObjM h a dx C mA/\(∀ f,RelO (fs.lookup f) (mA f))/\PySem.Within mA (fs.map (·.1))/\fs.length<=1000/\H dx=some (.own a):=by
 obtain⟨d,z,ne,ob,mA,n,r,q⟩:=(show ObjOk P w H h a (.ins C dx fs)from hok a _ e)
 exact⟨mA,⟨ob,n,ne⟩,r,q,z,d⟩
end
structure Cls(K:PySem.W.Frag)(C:Addr):Prop where
 pg:PySem.W.plainGet K C Str.empty=true
 hd:PySem.W.hasDictIn K C=true
 po:PySem.W.plainOver K C=true
 sa:PySem.W.findIn K (.ref C) "__setattr__"=some (some (.builtin "object.__setattr__"))
theorem Cls.get{K:PySem.W.Frag}{C:Addr}(c:Cls K C)(f:Str):PySem.W.plainGet K C f=true:=c.pg
def NoAttr(K:PySem.W.Frag)(C:Addr)(f:Str):Prop:=PySem.W.findIn K (.ref C) f=some none
theorem NoAttr.taker{K:PySem.W.Frag}{C:Addr}{f:Str}(n:NoAttr K C f):PySem.W.takerIn K C f=some none:=by
 unfold PySem.W.takerIn
 rw[show PySem.W.findIn K (.ref C) f=some none from n]
 rfl
structure Con(K:PySem.W.Frag)(C:Addr)(f:Str)(v:V)(u:Value):Prop where
 at_:PySem.W.findIn K (.ref C) f=some (some u)
 rel:RelV v u
 get:PySem.W.specialIn K u "__get__"=some none
 cp:PySem.W.copiedNames.contains f=false
structure Meth(K:PySem.W.Frag)(C:Addr)(m:Str)(f:Addr):Prop where
 at_:PySem.W.findIn K (.ref C) m=some (some (.ref f))
 fn:PySem.W.isFn K (.ref f)=true
 kp:PySem.W.keepIn K (.ref f)=true
section
variable{X:Cx}{pins:List (Addr × Obj)}{σ:St}{H:Hp}{s:Shared}{a C dx:Addr}{fs:List (Str × V)}{f:Str}{v:V}{A:Around}{E:Value->Shared->Prop}
theorem zsx{b:Bool}{Q:Value->Shared->Prop}(I:Inv X pins σ H s)(e:H a=some (.ins C dx fs))(c:Cls X.K C)(n:NoAttr X.K C f)(l:fs.lookup f=some v)
  (h:∀ u s',Inv X pins σ H s'->RelV v u->Q u s'):wpAny (model X.prog X.w) A (getAttr (.ref a) f b) Q E s:=by
 obtain⟨mA,O,r,_,_,_⟩:=ztg I.hok e
 obtain⟨u,hu,ru⟩:=RelO.some_of (v:=v) (o:=mA f) (by rw[<-l];exact r f)
 exact zad0 I.kIn O (c.get f) c.hd n hu (zz2 ru) (h u _ (I.tok _) ru)
theorem zsy{m:Str}{g:Addr}{pl:Sem Bool}{Q:Value × List Value->Shared->Prop}(I:Inv X pins σ H s)(e:H a=some (.ins C dx fs))(c:Cls X.K C)(k:Meth X.K C m g)(l:fs.lookup m=none)
  (h:Q (.ref g,[.ref a]) s):wpAny (model X.prog X.w) A (getMethod (.ref a) m pl) Q E s:=by
 obtain⟨mA,O,r,_,_,_⟩:=ztg I.hok e
 have hn:mA m=none:=RelO.none_of (by rw[<-l];exact r m)
 exact zabw I.kIn O (c.get m) k.at_ k.fn hn h
theorem zsz{y:V}{u:Value}{Q:Unit->Shared->Prop}(I:Inv X pins σ H s)(e:H a=some (.ins C dx fs))(c:Cls X.K C)(n:NoAttr X.K C f)(hl:fs.length<1000)(ry:RelV y u)
  (h:∀ s',Inv X pins σ (upd H a (.ins C dx (putF f y fs))) s'->Q () s'):wpAny (model X.prog X.w) A (setAttr (.ref a) f u) Q E s:=by
 obtain⟨mA,O,r,wi,_,ho⟩:=ztg I.hok e
 have hz:(fs.map (·.1)).length<=sizeLine:=by rw[List.length_map,sizeLine_eq];omega
 refine zad1 I.kIn O c.sa c.po n.taker c.hd wi hz λh' O' sb=>h _ ?_
 have hd:∃ o,h'.get? dx=some o:=let ⟨o,_,_,e',_⟩:=O'.ns;⟨o,e'⟩
 refine I.write (x:=a) (e:=dx) (by rw[e];exact True.intro) (.inr ho) (λb q hb z=>(sb.2 b hb).trans z) hd ?_
 refine⟨by rw[zag O.ne];exact ho,?_,O.ne,O'.obj,_,O'.ns,λg=> ?_,λg hg=> ?_⟩
 ·have:=zic f y fs;omega
 ·show RelO ((putF f y fs).lookup g) (if g=f then some u else mA g)
  rw[zqf]
  by_cases q:g=f
  ·rw[if_pos q,if_pos q];exact ry
  ·rw[if_neg q,if_neg q];exact r g
 ·by_cases q:g=f
  ·rw[q];exact(zqg f y fs).1
  ·refine(zqg f y fs).2 g (wi g λz=>hg ?_)
   show(if g=f then some u else mA g)=none
   rw[if_neg q];exact z
theorem Inv.made(I:Inv X pins σ H s):Inv X pins σ (upd (upd H s.heap.objs.size (.own (s.heap.objs.size+1))) (s.heap.objs.size+1) (.ins C s.heap.objs.size []))
  { s with heap:=(s.heap.push PySem.W.emptyDict).push (PySem.W.instObj C s.heap.objs.size) }:=by
 have e1:(s.heap.push PySem.W.emptyDict).get? s.heap.objs.size=some PySem.W.emptyDict:=Heap.get?_push_size s.heap rfl
 have e2:((s.heap.push PySem.W.emptyDict).push (PySem.W.instObj C s.heap.objs.size)).get? (s.heap.objs.size+1)=some (PySem.W.instObj C s.heap.objs.size):=by
  have:=Heap.get?_push_size (s.heap.push PySem.W.emptyDict) (o:=PySem.W.instObj C s.heap.objs.size) rfl
  rwa [Heap.size_push]at this
 have e3:(s.heap.push PySem.W.emptyDict).Ns s.heap.objs.size (λ_=>none):=⟨PySem.W.emptyDict,#[],_,e1,rfl,(λe he=>absurd he (by simp)),λ_=>rfl⟩
 have I1:=I.laid (a:=s.heap.objs.size) (o:=.own (s.heap.objs.size+1)) (h':=s.heap.push PySem.W.emptyDict) (t':=s.toks) (λb u q=>Heap.get?_push_of_some _ q) (Nat.le_refl _) ⟨_,e1⟩
 refine I1.laid (a:=s.heap.objs.size+1) (o:=.ins C s.heap.objs.size []) (t':=s.toks) (λb u q=>Heap.get?_push_of_some _ q) (Nat.le_of_eq (Heap.size_push _ _)) ?_
 have ne:s.heap.objs.size≠s.heap.objs.size+1:=Nat.ne_of_lt (Nat.lt_succ_self _)
 refine⟨by rw[zag ne,zac],Nat.zero_le _,ne,e2,λ_=>none,(Heap.Ns1.of_empty e3).at λo q=>Heap.get?_push_of_some _ q,λ_=>True.intro,λy hy=>absurd rfl hy⟩
theorem zad2{prog:Program}{w:World}{env:Env}{e:Expr}{f:Str}{pos:Pos}{s:Shared}{Q:Value->Shared->Prop}(hb:attributeBase e f env (eval e env)=eval e env)
  (h:wpAny (model prog w) A (eval e env) (λo s₁=>wpAny (model prog w) A (getAttr o f true) Q E s₁) E s):wpAny (model prog w) A (eval (.Attribute e f pos) env) Q E s :=
 Attribute_any_ h (by rw[arm_eval_Attribute,hb])
end
def tFld(K:PySem.W.Frag)(ta:TE)(f:Str):TE:=λσ H Q=>ta σ H λx H1=>∃ a C dx fs v,x=.ref a/\H1 a=some (.ins C dx fs)/\Cls K C/\NoAttr K C f/\fs.lookup f=some v/\Q v H1
def sFld(K:PySem.W.Frag)(ta tv:TE)(f:Str):TS:=λD σ H=>tv σ H λy H1=>ta σ H1 λx H2=>∃ a C dx fs,x=.ref a/\H2 a=some (.ins C dx fs)/\Cls K C/\NoAttr K C f/\fs.length<1000 ∧
 D.nx σ (upd H2 a (.ins C dx (putF f y fs)))
def InOp(X:Cx)(op:Operator)(rd:V->V->Hp->VK->Prop):Prop :=
 ∀ (pins:List (Addr × Obj)) (s:Shared) (σ:St) (H:Hp) (x y:V) (u v:Value) (Q:VK),Inv X pins σ H s->RelV x u->RelV y v->rd x y H Q->wpAny (model X.prog X.w) X.A (inplaceOp op u v) (EP X pins σ Q) X.xe s
def zwr(K:PySem.W.Frag)(ta tv:TE)(rd:V->V->Hp->VK->Prop)(f:Str):TS:=λD σ H=>ta σ H λx H1=>∃ a C dx fs v,x=.ref a/\H1 a=some (.ins C dx fs)/\Cls K C/\NoAttr K C f/\fs.lookup f=some v ∧
 tv σ H1 λy H2=>rd v y H2 λz H3=>∃ dx' fs',H3 a=some (.ins C dx' fs')/\fs'.length<1000/\D.nx σ (upd H3 a (.ins C dx' (putF f z fs')))
section
variable{X:Cx}{o e value:Expr}{f:Str}{pos pos' tpos:Pos}{ta tv:TE}
theorem za2(he:PE X e ta)(hb:attributeBase e f X.env (eval e X.env)=eval e X.env):PE X (.Attribute e f pos) (tFld X.K ta f):=by
 intro pins s σ H Q I h
 refine zad2 hb (thn (he pins s σ H _ I h) λu s1 ⟨x,H1,I1,rx,a,C,dx,fs,v,ex,ea,c,n,l,q⟩=> ?_)
 subst ex
 obtain rfl:u=Value.ref a:=rx
 exact zsx I1 ea c n l λu' s2 I2 ru=>⟨v,H1,I2,ru,q⟩
theorem zg9(ha:PE X o ta)(hv:PE X value tv)(hs:swapsWith value (some (.Attribute o f pos')) pos.line X.env=pure false):PS X (.Assign [.Attribute o f pos'] value pos) (sFld X.K ta tv f):=by
 intro pins s σ H D I h
 refine plainObj_wpAny_Assign_Attribute (thn (hv pins s σ H _ I h) λu s1 ⟨y,H1,I1,ry,q⟩=>thn (ha pins s1 σ H1 _ I1 q) λov s2 ⟨x,H2,I2,rx,a,C,dx,fs,ex,ea,c,n,l,q2⟩=> ?_) hs
 subst ex
 obtain rfl:ov=Value.ref a:=rx
 exact zsz I2 ea c n l ry λs3 I3=>⟨σ,_,I3,q2⟩
theorem zz3{op:Operator}{rd:V->V->Hp->VK->Prop}(ha:PE X o ta)(hv:PE X value tv)(hop:InOp X op rd):PS X (.AugAssign (.Attribute o f tpos) op value pos) (zwr X.K ta tv rd f):=by
 intro pins s σ H D I h
 refine wpAny_AugAssign_AttributeAny (thn (ha pins s σ H _ I h) λov s1 ⟨x,H1,I1,rx,a,C,dx,fs,v,ex,ea,c,n,l,q⟩=> ?_)
 subst ex
 obtain rfl:ov=Value.ref a:=rx
 refine zsx I1 ea c n l λu s2 I2 ru=>thn (hv pins s2 σ H1 _ I2 q) λw3 s3 ⟨y,H2,I3,ry,q3⟩=>thn (hop pins s3 σ H2 v y u w3 _ I3 ru ry q3) λw4 s4 ⟨z,H3,I4,rz,dx',fs',ea',l',q4⟩=> ?_
 exact zsz I4 ea' c n l' rz λs5 I5=>⟨σ,_,I5,q4⟩
def rAdd:V->V->Hp->VK->Prop:=λx y H Q=>∃ i j,x=.int i/\y=.int j/\Q (.int (i+j)) H
theorem zagf:InOp X .Add rAdd:=by
 rintro pins s σ H x y u v Q I rx ry ⟨i,j,rfl,rfl,q⟩
 obtain⟨t,rfl⟩:=(show ∃ t,u=Value.int i t from rx)
 obtain⟨t',rfl⟩:=(show ∃ t',v=Value.int j t' from ry)
 exact PyProof.Rows.iadd_int ⟨.int (i+j),H,I.tok _,⟨_,rfl⟩,q⟩
end
section
variable{X:Cx}{pins:List (Addr × Obj)}{σ:St}{H:Hp}{s:Shared}{A:Around}{E:Value->Shared->Prop}{Q:Value->Shared->Prop}{c:Value}{b:Bool}
inductive TyOf(K:PySem.W.Frag)(H:Hp):V->Value->Prop where
 | non:TyOf K H .non (.type "NoneType")
 | bl (x:Bool):TyOf K H (.bl x) (.type "bool")
 | int (i:Int):TyOf K H (.int i) (.type "int")
 | str (x:Str):TyOf K H (.str x) (.type "str")
 | flt (x:UInt64):TyOf K H (.flt x) (.type "float")
 | lst {a:Addr} {xs:List V} (e:H a=some (.lst xs)):TyOf K H (.ref a) (.type "list")
 | frz {a:Addr} {o:Obj} {xs:List V} (e:H a=some (.frz o (.lst xs))):TyOf K H (.ref a) (.type "list")
 | tup {a:Addr} {xs:List V} (e:H a=some (.tup xs)):TyOf K H (.ref a) (.type "tuple")
 | dK {a:Addr} {kvs:List (Key × V)} (e:H a=some (.dK kvs)):TyOf K H (.ref a) (.type "dict")
 | dT {a:Addr} {kvs:List (List Key × V)} (e:H a=some (.dT kvs)):TyOf K H (.ref a) (.type "dict")
 | ins {a C dx:Addr} {fs:List (Str × V)} (e:H a=some (.ins C dx fs)) (cl:Cls K C) (ha:PySem.W.findIn K (.ref C) "__class__"=some (some (.builtin "object.__class__")))
   (hn:PySem.W.specialIn K (.builtin "object.__class__") "__get__"=some (some (.builtin "getset_descriptor.__get__"))) (htk:PySem.W.takesIn K (.builtin "object.__class__")=some true)
   (hm:PySem.W.mroIn K C (.type "object")=some true):TyOf K H (.ref a) (.ref C)
end
end L2
namespace L2
open PySem PySem.Spec PyProof.Rows
structure Room(k:Nat)(A:Around):Prop where
 hd:A.handled=none
 dp:A.depth+3 * k+5<recursionLimit
 un:A.units+16 * k+200<cLine
theorem Room.mono{j k:Nat}{A:Around}(r:Room k A)(h:j<=k):Room j A:=⟨r.hd,by have:=r.dp;omega,by have:=r.un;omega⟩
theorem Room.deeper{k:Nat}{A:Around}(r:Room (k+1) A)(env:Env):Room k (A.deeper env) :=
 ⟨r.hd,by have:=r.dp;show A.depth+1+3 * k+5<_;omega,by have:=r.un;show A.units+3+16 * k+200<_;omega⟩
theorem Room.in1{k:Nat}{A:Around}(r:Room (k+1) A):Room k A.in1 :=
 ⟨r.hd,by have:=r.dp;show A.depth+3 * k+5<_;omega,by have:=r.un;show A.units+1+16 * k+200<_;omega⟩
theorem zy1{A:Around}{C:Addr}{us:List Value}{kw:List (Str × Value)}:(A.under (.builtin "type.__call__" ⟨.ref C::us,kw⟩)).depth=A.depth+1:=by
 first | rfl | simp[Around.under,Code.weight,Code.isCreation,Code.isGuard,Code.isCaller,Code.frames,Code.isFrame,guardIds]
theorem zy2{A:Around}{C:Addr}{us:List Value}{kw:List (Str × Value)}:(A.under (.builtin "type.__call__" ⟨.ref C::us,kw⟩)).units=A.units+1:=by
 first | rfl | simp[Around.under,Code.cUnits,Code.frames,Code.isFrame]
theorem Room.make{k:Nat}{A:Around}(r:Room (k+1) A)(C:Addr)(us:List Value)(kw:List (Str × Value)):Room k (A.under (.builtin "type.__call__" ⟨.ref C::us,kw⟩)) :=
 ⟨r.hd,by have:=r.dp;rw[zy1];omega,by have:=r.un;rw[zy2];omega⟩
theorem Room.depth{k:Nat}{A:Around}(r:Room k A):A.depth<recursionLimit:=by have:=r.dp;omega
theorem Room.units{k:Nat}{A:Around}(r:Room k A):A.units+64<cLine:=by have:=r.un;omega
def tNil:TA:=λ_ H Q=>Q [] H
def zad(ta:TE)(tr:TA):TA:=λσ H Q=>ta σ H λx H1=>tr σ H1 λxs H2=>Q (x::xs) H2
section
variable{X:Cx}{e:Expr}{es:List Expr}{te:TE}{t:TA}{pos:Pos}
theorem zaf:PA X [] tNil:=λ_ _ _ _ H Q I h=>Calls.spliced_nil ⟨[],H,I,.nil,h⟩
theorem zaa(ha:PE X e te)(hr:PA X es t)(hs:starEach (e::es) X.env=(false,eval e X.env)::starEach es X.env:=by rfl):PA X (e::es) (zad te t):=by
 intro pos pins s σ H Q I h
 rw[hs]
 show wpAny _ _ (spliced ((false,eval e X.env)::backTo pos (starEach es X.env))) _ _ s
 refine Calls.spliced_cons (thn (ha pins s σ H _ I h) λu s1 ⟨x,H1,I1,r1,q1⟩=> ?_)
 exact thn (hr pos pins s1 σ H1 _ I1 q1) λus s2 ⟨xs,H2,I2,r2,q2⟩=>⟨x::xs,H2,I2,.cons r1 r2,q2⟩
def tTup(t:TA):TE:=λσ H Q=>t σ H λxs H1=>xs.length<=sizeLine/\∀ p,H1 p=none->Q (.ref p) (upd H1 p (.tup xs))
def tLst(t:TA):TE:=λσ H Q=>t σ H λxs H1=>xs.length<=sizeLine/\∀ p,H1 p=none->Q (.ref p) (upd H1 p (.lst xs))
theorem zgy{x1}(h:PA X es t):PE X (.Tuple es x1 pos) (tTup t):=by
 intro pins s σ H Q I hq
 refine wpAny_Tuple_spliced (thn (h pos pins s σ H _ I hq) λus s1 ⟨xs,H1,I1,r,z,q⟩=>⟨by rw[<-r.length];exact z,?_⟩)
 have hf:H1 s1.heap.objs.size=none:=I1.hok.fresh (Nat.le_refl _)
 refine⟨.ref s1.heap.objs.size,upd H1 s1.heap.objs.size (.tup xs),I1.laid (t':=s1.toks) (λb u e=>Heap.get?_push_of_some _ e) (Nat.le_refl _) ?_,rfl,q _ hf⟩
 exact⟨z,us,r,⟨_,Heap.get?_push_size _ rfl,rfl,_,rfl⟩⟩
theorem zit(h:PA X es t):PE X (.List es pos) (tLst t):=by
 intro pins s σ H Q I hq
 refine wpAny_List_spliced (thn (h pos pins s σ H _ I hq) λus s1 ⟨xs,H1,I1,r,z,q⟩=>⟨by rw[<-r.length];exact z,?_⟩)
 have hf:H1 s1.heap.objs.size=none:=I1.hok.fresh (Nat.le_refl _)
 refine⟨.ref s1.heap.objs.size,upd H1 s1.heap.objs.size (.lst xs),I1.laid (t':=s1.toks) (λb u e=>Heap.get?_push_of_some _ e) (Nat.le_refl _) ?_,rfl,q _ hf⟩
 exact⟨z,us,0,r,Heap.get?_push_size _ rfl⟩
end
abbrev Sp:=List V->Hp->VK->XK->Prop
abbrev CXT:=List Env->Hp->Shared->XK->Value->Shared->Prop
structure Env0(P:Program)(w:World)(K:PySem.W.Frag)(mg:Str->Option Value)(base:Heap)(A:Around)(outer:List Env)(s:Shared)(H:Hp):Prop where
 frames:A.frames=some outer
 mod:Mod K mg base
 bs:∀ b o,base.get? b=some o->s.heap.get? b=some o/\H b=none
 bsz:base.objs.size<=s.heap.objs.size
 funs:s.heap.FunFrames base outer
 frf:∀ b∈frs outer,H b=none
 hok:HOk P w H s.heap
 bare:AllBare s.gens
def CE(outer:List Env)(P:Program)(w:World)(H:Hp)(s:Shared)(Q:VK)(u:Value)(s':Shared):Prop :=
 ∃ v H',s'.os=s.os/\AllBare s'.gens/\Un (frs outer) [] H H' s.heap s'.heap/\HOk P w H' s'.heap/\RelV v u/\Q v H'
def CR(CX:CXT)(outer:List Env)(P:Program)(w:World)(H:Hp)(s:Shared)(Q:VK)(E:XK)(r:Result)(s':Shared):Prop :=
 match r with
 | .ok (.ret u)=>CE outer P w H s Q u s'
 | .ok _=>False
 | .error e=>CX outer H s E e s'
structure FnOk(P:Program)(w:World)(K:PySem.W.Frag)(mg:Str->Option Value)(base:Heap)(CX:CXT)(k:Nat)(f:Addr)(fd:FuncData)(ps:List Str)(sp:Sp):Prop where
 len:∀ vs H Q E,sp vs H Q E->vs.length=ps.length
 run:∀ (A:Around) (outer:List Env) (s:Shared) (H:Hp) (args:Args) (us:List Value) (vs:List V) (Q:VK) (E:XK),Room k A->Env0 P w K mg base A outer s H->BindsTo s fd args (ps.zip us)->Vals vs us->sp vs H Q E →
  codeAny (model P w) A (.call (.ref f) args) (CR CX outer P w H s Q E) s
theorem FnOk.mono{P:Program}{w:World}{K:PySem.W.Frag}{mg:Str->Option Value}{base:Heap}{CX:CXT}{j k:Nat}{f:Addr}{fd:FuncData}{ps:List Str}{sp:Sp}(F:FnOk P w K mg base CX j f fd ps sp)(h:j<=k) :
  FnOk P w K mg base CX k f fd ps sp:=⟨F.len,λA outer s H args us vs Q E hr=>F.run A outer s H args us vs Q E (hr.mono h)⟩
theorem FnOk.imp{P:Program}{w:World}{K:PySem.W.Frag}{mg:Str->Option Value}{base:Heap}{CX:CXT}{k:Nat}{f:Addr}{fd:FuncData}{ps:List Str}{sp sp':Sp}(F:FnOk P w K mg base CX k f fd ps sp)
  (h:∀ vs H Q E,sp' vs H Q E->sp vs H Q E):FnOk P w K mg base CX k f fd ps sp' :=
 ⟨λvs H Q E q=>F.len vs H Q E (h _ _ _ _ q),λA outer s H args us vs Q E hr he hb hv hs=>F.run A outer s H args us vs Q E hr he hb hv (h _ _ _ _ hs)⟩
theorem Env0.make{P:Program}{w:World}{K:PySem.W.Frag}{mg:Str->Option Value}{base:Heap}{A:Around}{outer:List Env}{s:Shared}{H:Hp}(e:Env0 P w K mg base A outer s H)(C:Addr)(us:List Value)(kw:List (Str × Value)) :
  Env0 P w K mg base (A.under (.builtin "type.__call__" ⟨.ref C::us,kw⟩)) outer s H:=⟨by first | exact e.frames | (simpa [Around.under,Code.envs,Code.isFrame,pushEnvs]using e.frames),e.mod,e.bs,e.bsz,e.funs,e.frf,e.hok,e.bare⟩
theorem Env0.in1{P:Program}{w:World}{K:PySem.W.Frag}{mg:Str->Option Value}{base:Heap}{A:Around}{outer:List Env}{s:Shared}{H:Hp}(e:Env0 P w K mg base A outer s H) :
  Env0 P w K mg base A.in1 outer s H:=⟨e.frames,e.mod,e.bs,e.bsz,e.funs,e.frf,e.hok,e.bare⟩
section
variable{X:Cx}{pins:List (Addr × Obj)}{σ:St}{H:Hp}{s s':Shared}
theorem Inv.env0(I:Inv X pins σ H s):Env0 X.prog X.w X.K X.mg X.base X.A X.stack s H :=
 ⟨I.ok.frames,I.ok.mod,I.bs,Nat.le_trans I.ok.bsz I.sz,I.stack,I.stkFree,I.hok,I.bare⟩
theorem Inv.after{Q:VK}{u:Value}(I:Inv X pins σ H s)(h:CE X.stack X.prog X.w H s Q u s'):EP X pins σ Q u s':=by
 obtain⟨v,H',os,bare,un,hok,r,q⟩:=h
 obtain⟨hh,g,d,t,os'⟩:=s'
 obtain rfl:os'=s.os:=os
 exact⟨v,H',I.call (h':=hh) (g':=g) (d':=d) (t':=t) (ch:=[]) un hok bare (λb z=>absurd z (by simp)),r,q⟩
end
def zdl(sp:Sp)(dvs:List V)(E:St->XK)(t:TA):TE:=λσ H Q=>t σ H λvs H1=>sp (vs++dvs) H1 Q (E σ)
def zb5(C:Addr)(m:Str)(sp:Sp)(dvs:List V)(E:St->XK)(ta:TE)(t:TA):TE:=λσ H Q=>ta σ H λx H1=>∃ a dx fs,x=.ref a/\H1 a=some (.ins C dx fs)/\fs.lookup m=none ∧
 t σ H1 λvs H2=>sp (x::(vs++dvs)) H2 Q (E σ)
def zws(C:Addr)(sp:Sp)(dvs:List V)(E:St->XK)(t:TA):TE:=λσ H Q=>t σ H λvs H1=>∀ x dx,H1 x=none->H1 dx=none->dx≠x →
 sp (.ref x::(vs++dvs)) (upd (upd H1 dx (.own x)) x (.ins C dx [])) (λv H2=>v=.non/\Q (.ref x) H2) (E σ)
def Binds(K:PySem.W.Frag)(fd:FuncData)(ps:List Str)(ds:List Value):Prop :=
 ∀ (s:Shared) (us:List Value),K.In s.heap->(us++ds).length=ps.length->BindsTo s fd ⟨us,[]⟩ (ps.zip (us++ds))
theorem Binds.all{K:PySem.W.Frag}{fd:FuncData}{ps:List Str}(h:∀ us:List Value,us.length=ps.length->bindArgs fd ⟨us,[]⟩=pure (ps.zip us)):Binds K fd ps []:=λs us _ hl=>by
 rw[List.append_nil]at hl ⊢
 exact .of_eq (h us hl)
def ziu(CX:CXT)(X:Cx)(E:St->XK):Prop:=∀ (pins:List (Addr × Obj)) (σ:St) (H:Hp) (s:Shared) (e:Value) (s':Shared),Inv X pins σ H s->CX X.stack H s (E σ) e s'->X.xe e s'
section
variable{X:Cx}{CX:CXT}{k:Nat}{f C:Addr}{fd:FuncData}{ps:List Str}{sp:Sp}{dvs:List V}{ds:List Value}{E:St->XK}{x m:Str}{p pos apos:Pos}{e o:Expr}{es:List Expr}{ta:TE}{t:TA}
theorem zz4{pins:List (Addr × Obj)}{σ:St}{H:Hp}{s:Shared}{Q:VK}{us:List Value}{vs:List V}(F:FnOk X.prog X.w X.K X.mg X.base CX k f fd ps sp)(hr:Room k X.A)(hb:Binds X.K fd ps ds)(hd:Vals dvs ds)(hx:ziu CX X E)
    (I:Inv X pins σ H s) (r:Vals vs us) (h:sp (vs++dvs) H Q (E σ)):wpAny (model X.prog X.w) X.A (call (.ref f) us) (EP X pins σ Q) X.xe s:=by
  have r2:Vals (vs++dvs) (us++ds):=r.append hd
  have hl:(us++ds).length=ps.length:=by rw[<-r2.length];exact F.len _ _ _ _ h
  refine wpAny_call (codeAny_mono (F.run X.A X.stack s H ⟨us,[]⟩ (us++ds) (vs++dvs) Q (E σ) hr I.env0 (hb s us I.kIn hl) r2 h) λr s' hq=> ?_)
  cases r with
  | error e=>exact hx pins σ H s e s' I hq
  | ok fl =>
    cases fl with
    | ret u=>exact I.after hq
    | next=>exact False.elim hq
    | brk=>exact False.elim hq
    | cont=>exact False.elim hq
theorem zad3(F:FnOk X.prog X.w X.K X.mg X.base CX k f fd ps sp)(hr:Room k X.A)(hg:Gl X x)(hm:X.mg x=some (.ref f))(hk:PySem.W.keepIn X.K (.ref f)=true)(hb:Binds X.K fd ps ds)(hd:Vals dvs ds)(hx:ziu CX X E)
  (ha:PA X (e::es) t) (hdb:(x ==("__debug__":Str))=false:=by decide) (he:starEach (e::es) X.env=(false,eval e X.env)::starEach es X.env:=by rfl) (hpl:(backTo pos (starEach es X.env)).any (·.1)=false:=by rfl) :
  PE X (.Call (.Name x p) (e::es) [] pos) (zdl sp dvs E t):=by
 intro pins s σ H Q I h
 refine wpAny_Call_Name_kw (zqd I hg hm ?_ hdb)
 refine PySem.W.callWith_K (h₀:=X.base) I.ok.mod.kin hk (thn (ha pos pins s σ H _ I h) λus s1 ⟨vs,H1,I1,r,q⟩=>⟨I1.kIn,?_⟩) he hpl
 exact zz4 F hr hb hd hx I1 r q
theorem zad4{pl:Sem Bool}(he:PE X o ta)(c:Cls X.K C)(hm:Meth X.K C m f)(F:FnOk X.prog X.w X.K X.mg X.base CX k f fd ps sp)(hr:Room k X.A)(hb:Binds X.K fd ps ds)(hd:Vals dvs ds)(hx:ziu CX X E)(ha:PA X (e::es) t)
  (hst:starEach (e::es) X.env=(false,eval e X.env)::starEach es X.env:=by rfl) (hpl:(backTo pos (starEach es X.env)).any (·.1)=false:=by rfl)
  (ht:eval (.Call (.Attribute o m apos) (e::es) [] pos) X.env=(do
   let ov ← eval o X.env
   standAt apos.atName
   let (f,first) ← holding [ov] (getMethod ov m pl)
   callWith pos f first (backTo pos (starEach (e::es) X.env)) (backToKw pos (keywordEach [] X.env))):=by rfl) :
  PE X (.Call (.Attribute o m apos) (e::es) [] pos) (zb5 C m sp dvs E ta t):=by
 intro pins s σ H Q I h
 refine PySem.W.methodCall_KW (pl:=pl) (thn (he pins s σ H _ I h) λu s1 ⟨x,H1,I1,rx,a,dx,fs,ex,ea,l,q⟩=> ?_) ht
 subst ex
 obtain rfl:u=Value.ref a:=rx
 refine zsy I1 ea c hm l ?_
 refine PySem.W.callWith_K (first:=[.ref a]) (h₀:=X.base) I.ok.mod.kin hm.kp (thn (ha pos pins s1 σ H1 _ I1 q) λus s2 ⟨vs,H2,I2,r,q2⟩=>⟨I2.kIn,?_⟩) hst hpl
 exact zz4 (us:=.ref a::us) (vs:=.ref a::vs) F hr hb hd hx I2 (.cons rfl r) q2
theorem zaby{pl:Sem Bool}(he:PE X o ta)(c:Cls X.K C)(hm:Meth X.K C m f)(F:FnOk X.prog X.w X.K X.mg X.base CX k f fd ps sp)(hr:Room k X.A)(hb:Binds X.K fd ps ds)(hd:Vals dvs ds)(hx:ziu CX X E)
  (ht:eval (.Call (.Attribute o m apos) [] [] pos) X.env=(do
   let ov ← eval o X.env
   standAt apos.atName
   let (f,first) ← holding [ov] (getMethod ov m pl)
   callWith pos f first (backTo pos (starEach [] X.env)) (backToKw pos (keywordEach [] X.env))):=by rfl) :
  PE X (.Call (.Attribute o m apos) [] [] pos) (zb5 C m sp dvs E ta tNil):=by
 intro pins s σ H Q I h
 refine PySem.W.methodCall_KW (pl:=pl) (thn (he pins s σ H _ I h) λu s1 ⟨x,H1,I1,rx,a,dx,fs,ex,ea,l,q⟩=> ?_) ht
 subst ex
 obtain rfl:u=Value.ref a:=rx
 refine zsy I1 ea c hm l ?_
 exact PySem.W.callWith_K0 (first:=[.ref a]) I1.kIn hm.kp (zz4 (us:=[.ref a]) (vs:=[.ref a]) F hr hb hd hx I1 (.cons rfl .nil) q)
structure Mk(K:PySem.W.Frag)(C f:Addr):Prop where
 makes:PySem.W.makesIn K C=true
 init:PySem.W.findIn K (.ref C) "__init__"=some (some (.ref f))
 fn:PySem.W.isFn K (.ref f)=true
 kp:PySem.W.keepIn K (.ref C)=true
theorem zabz{pins:List (Addr × Obj)}{σ:St}{H:Hp}{s:Shared}{Q:VK}{us:List Value}{vs:List V}(M:Mk X.K C f)(F:FnOk X.prog X.w X.K X.mg X.base CX k f fd ps sp)(hr:Room (k+1) X.A)(hb:Binds X.K fd ps ds)(hd:Vals dvs ds)
    (hx:ziu CX X E) (I:Inv X pins σ H s) (r:Vals vs us)
    (h:∀ x dx,H x=none->H dx=none->dx≠x->sp (.ref x::(vs++dvs)) (upd (upd H dx (.own x)) x (.ins C dx [])) (λv H2=>v=.non/\Q (.ref x) H2) (E σ)) :
    wpAny (model X.prog X.w) X.A (call (.ref C) us) (EP X pins σ Q) X.xe s:=by
  have hq:=h (s.heap.objs.size+1) s.heap.objs.size (I.hok.fresh (Nat.le_succ _)) (I.hok.fresh (Nat.le_refl _)) (Nat.ne_of_lt (Nat.lt_succ_self _))
  have I2:=Inv.made (C:=C) I
  have r2:Vals (V.ref (s.heap.objs.size+1)::(vs++dvs)) (Value.ref (s.heap.objs.size+1)::(us++ds)):=.cons rfl (r.append hd)
  have hl:(Value.ref (s.heap.objs.size+1)::us++ds).length=ps.length:=by
    have e:=r2.length
    rw[F.len _ _ _ _ hq]at e
    exact e.symm
  refine wpAny_call (zabx (f:=f) I.kIn M.makes M.init (beq_iff_eq.mp M.fn) (codeAny_mono (F.run _ X.stack _ _ ⟨Value.ref (s.heap.objs.size+1)::us,[]⟩ (Value.ref (s.heap.objs.size+1)::(us++ds)) _ _ (E σ) (hr.make C us [])
    (I2.env0.make C us []) (hb _ (Value.ref (s.heap.objs.size+1)::us) I2.kIn hl) r2 hq) λr s' hq'=> ?_))
  cases r with
  | error e=>exact hx pins σ _ _ e s' I2 hq'
  | ok fl =>
    cases fl with
    | ret u =>
      obtain⟨v,H',I3,rv,ev,q3⟩:=I2.after hq'
      subst ev
      exact⟨rv,⟨V.ref (s.heap.objs.size+1),H',I3,rfl,q3⟩⟩
    | next=>exact False.elim hq'
    | brk=>exact False.elim hq'
    | cont=>exact False.elim hq'
theorem zad5(M:Mk X.K C f)(F:FnOk X.prog X.w X.K X.mg X.base CX k f fd ps sp)(hr:Room (k+1) X.A)(hg:Gl X x)(hm:X.mg x=some (.ref C))(hb:Binds X.K fd ps ds)(hd:Vals dvs ds)(hx:ziu CX X E)
  (ha:PA X (e::es) t) (hdb:(x ==("__debug__":Str))=false:=by decide) (he:starEach (e::es) X.env=(false,eval e X.env)::starEach es X.env:=by rfl) (hpl:(backTo pos (starEach es X.env)).any (·.1)=false:=by rfl) :
  PE X (.Call (.Name x p) (e::es) [] pos) (zws C sp dvs E t):=by
 intro pins s σ H Q I h
 refine wpAny_Call_Name_kw (zqd I hg hm ?_ hdb)
 refine PySem.W.callWith_K (h₀:=X.base) I.ok.mod.kin M.kp (thn (ha pos pins s σ H _ I h) λus s1 ⟨vs,H1,I1,r,q⟩=>⟨I1.kIn,?_⟩) he hpl
 exact zabz M F hr hb hd hx I1 r q
end
section
variable{X:Cx}{CX:CXT}{k:Nat}{f C:Addr}{fd:FuncData}{ps ks:List Str}{sp:Sp}{E:St->XK}{x m:Str}{p pos apos kpos:Pos}{e o:Expr}{es:List Expr}{kws:List Keyword}{te ta:TE}{t tk:TA}{nm:Option Str}
structure zai4(K:PySem.W.Frag)(fd:FuncData)(ps ks:List Str)(g:List Value->List Value->List Value)(gV:List V->List V->List V):Prop where
 to:∀ (s:Shared) (us ws:List Value),K.In s.heap->(g us ws).length=ps.length->BindsTo s fd ⟨us,ks.zip ws⟩ (ps.zip (g us ws))
 rel:∀ {vs:List V} {us:List Value} {zs:List V} {ws:List Value},Vals vs us->Vals zs ws->Vals (gV vs zs) (g us ws)
variable{g:List Value->List Value->List Value}{gV:List V->List V->List V}
end
structure zaq(N P:List Str)(sc:Scope):Prop where
 kind:sc.kind=.function
 co:sc.isCoroutine=false
 gen:sc.isGenerator=false
 nd:N.Nodup
 pre:N.take P.length=P
 par:∀ x∈P,sc.names.lookup x=some .local\/sc.names.lookup x=some .cell
 nofree:∀ y∈sc.names,y.2≠.free
theorem zuw{kindOf:Str->Option NameKind}{x:Str}:∀ {binds:List (Str × Value)} {m:Str->Option Value},(∀ v,(x,v)∉binds)->bindL kindOf binds m x=m x
  | [],_,_=>rfl
  | (n,v)::r,m,h=>by
    unfold bindL
    rw[zuw λw hw=>h w (List.mem_cons_of_mem _ hw)]
    split
    · have:x≠n:=by rintro rfl;exact h v List.mem_cons_self
      simp[this]
    ·rfl
theorem zux{kindOf:Str->Option NameKind}{x:Str}:∀ {binds:List (Str × Value)} {m:Str->Option Value},(∀ v,(x,v)∉binds)->bindC kindOf binds m x=m x
  | [],_,_=>rfl
  | (n,v)::r,m,h=>by
    unfold bindC
    rw[zux λw hw=>h w (List.mem_cons_of_mem _ hw)]
    split
    ·rfl
    · have:x≠n:=by rintro rfl;exact h v List.mem_cons_self
      simp[this]
theorem zuy{kindOf:Str->Option NameKind}{x:Str}{v:Value}:∀ {P:List Str} {vs:List Value} {i:Nat} {m:Str->Option Value},P.Nodup->P[i]? =some x->vs[i]? =some v->kindOf x=some .local →
    bindL kindOf (P.zip vs) m x=some v
  | [],_,_,_,_,h,_,_=>by simp at h
  | _::_,[],_,_,_,_,h,_=>by simp at h
  | p::P,w::vs,0,m,nd,h1,h2,hk=>by
    simp at h1 h2;subst h1;subst h2
    show bindL kindOf ((p,w)::P.zip vs) m p=_
    unfold bindL
    rw[zuw λv hv=>(List.nodup_cons.mp nd).1 (List.of_mem_zip hv).1,if_pos hk]
    simp
  | p::P,w::vs,i+1,m,nd,h1,h2,hk=>by
    show bindL kindOf ((p,w)::P.zip vs) m x=_
    unfold bindL
    exact zuy (i:=i) (List.nodup_cons.mp nd).2 (by simpa using h1) (by simpa using h2) hk
theorem zuz{kindOf:Str->Option NameKind}{x:Str}{v:Value}:∀ {P:List Str} {vs:List Value} {i:Nat} {m:Str->Option Value},P.Nodup->P[i]? =some x->vs[i]? =some v->kindOf x≠some .local →
    bindC kindOf (P.zip vs) m x=some v
  | [],_,_,_,_,h,_,_=>by simp at h
  | _::_,[],_,_,_,_,h,_=>by simp at h
  | p::P,w::vs,0,m,nd,h1,h2,hk=>by
    simp at h1 h2;subst h1;subst h2
    show bindC kindOf ((p,w)::P.zip vs) m p=_
    unfold bindC
    rw[zux λv hv=>(List.nodup_cons.mp nd).1 (List.of_mem_zip hv).1,if_neg hk]
    simp
  | p::P,w::vs,i+1,m,nd,h1,h2,hk=>by
    show bindC kindOf ((p,w)::P.zip vs) m x=_
    unfold bindC
    exact zuz (i:=i) (List.nodup_cons.mp nd).2 (by simpa using h1) (by simpa using h2) hk
def zbu(N:List Str)(vs:List V):St:=vs.map some++List.replicate (N.length - vs.length) none
def cxOf(CX:CXT)(P:Program)(w:World)(K:PySem.W.Frag)(mg:Str->Option Value)(base:Heap)(N:List Str)(qual:Str)(scope:Scope)(f:Addr)(cd:Value)(A:Around)(outer:List Env)(s:Shared)(H:Hp)(E:XK):Cx where
 prog:=P
 w:=w
 K:=K
 mg:=mg
 base:=base
 A:=A.deeper (envOfC qual scope s.heap.objs.size f cd)
 N:=N
 s₀:=s
 H₀:=H
 env:=envOfC qual scope s.heap.objs.size f cd
 outer:=outer
 stack:=envOfC qual scope s.heap.objs.size f cd::outer
 ex:=[]
 calm:=true
 fn:=λ_=>true
 pn:=[]
 xe:=λe s'=>wpAny (model P w) (A.deeper (envOfC qual scope s.heap.objs.size f cd)) (leaving (envOfC qual scope s.heap.objs.size f cd) e) (λ_ s''=>CX outer H s E e s'') (λe' s''=>CX outer H s E e' s'') s'
theorem zx2{sc:Scope}{n:Nat}{x:Str}(h:sc.names.lookup x=some .cell):∃ c,(cellsFrom n sc.names []).lookup x=some c:=by
 have q:=PySem.W.cellsFrom_some sc.names n [] (.inl h)
 exact Option.isSome_iff_exists.mp q
theorem zz5 {CX:CXT} {P:Program} {w:World} {K:PySem.W.Frag} {mg:Str->Option Value} {base:Heap} {N ps:List Str} {qual:Str} {scope:Scope} {f:Addr} {cd:Value} {A:Around} {outer:List Env} {s s1:Shared} {H:Hp} {E:XK} {us:List Value} {vs:List V}
    (S:zaq N ps scope) (hd:A.handled=none) (e0:Env0 P w K mg base A outer s H) (hl:vs.length=ps.length) (r:Vals vs us)
    (x:InCallC s s.heap.objs.size (bindL (envOfC qual scope s.heap.objs.size f cd).kindOf (ps.zip us) λ_=>none) (cellsFrom (s.heap.objs.size+1) scope.names []) (bindC (envOfC qual scope s.heap.objs.size f cd).kindOf (ps.zip us) λ_=>none) s1) :
    Inv (cxOf CX P w K mg base N qual scope f cd A outer s H E) [] (zbu N vs) H s1:=by
  have hpl:ps.length<=N.length:=by have:=congrArg List.length S.pre;rw[List.length_take]at this;omega
  obtain⟨h1,tk,rfl,hk⟩:=x.done
  have noA:∀ b:Addr,b∉(cxOf CX P w K mg base N qual scope f cd A outer s H E).ex:=λb z=>absurd (show b∈([]:List Addr)from z) (by simp)
  refine⟨⟨e0.mod,S.kind,rfl,rfl,Nat.le_refl _,λy z c h1 h2=> ?_,λy hy=> ?_,λy c _ h=> ?_,λ_=>hd,Around.frames_deeper e0.frames,.inr ⟨rfl,rfl⟩,λb z=>absurd z (noA b),e0.bs,e0.bsz,λb _ _=>noA b,λb z=>absurd z (noA b),e0.funs,e0.frf⟩,
    rfl,e0.bare,Un.kept hk,⟨_,x.toInCall.ns,λi y v h1 h2 h3=> ?_⟩,λy c h=>⟨_,x.cell y c h⟩,e0.hok.fresh (Nat.le_refl _),λy c h=> ?_,λp hp=>absurd (show p∈([]:List (Addr × Obj))from hp) (by simp),e0.hok.kept hk,?_⟩
  ·exact name_of_addr x.apart (PySem.mem_of_lookup h1) (PySem.mem_of_lookup h2)
  · have hy:scope.names.lookup y=some .cell\/scope.names.lookup y=some .free:=hy
    rcases hy with hy | hy
    ·exact zx2 hy
    ·exact absurd rfl (S.nofree _ (PySem.mem_of_lookup hy))
  ·exact Nat.le_of_lt (x.above y c (PySem.mem_of_lookup h))
  · have hi:i<vs.length:=by
      unfold zbu at h2
      by_cases hi:i<vs.length
      ·exact hi
      · rw[List.getElem?_append_right (by simpa using hi)]at h2
        rw[List.getElem?_replicate]at h2
        split at h2<;>cases h2
    have ha:vs[i]? =some v:=by
      unfold zbu at h2
      rw[List.getElem?_append_left (by simpa using hi),List.getElem?_map]at h2
      cases e:vs[i]? with
      | none=>rw[e]at h2;cases h2
      | some a=>rw[e]at h2;cases h2;rfl
    obtain⟨u,hu,rv⟩:=r.get ha
    have hp:ps[i]? =some y:=by
      rw[<-S.pre,List.getElem?_take_of_lt (by omega)];exact h1
    have ndP:ps.Nodup:=by rw[<-S.pre];exact S.nd.sublist (List.take_sublist _ _)
    refine⟨u,rv,?_⟩
    rcases S.par y (List.mem_of_getElem? hp)with k | k
    ·exact .inl ⟨k,zuy ndP hp hu k⟩
    · obtain⟨c,e⟩:=zx2 (n:=s.heap.objs.size+1) k
      refine .inr ⟨.inl k,c,e,?_⟩
      have q:=x.cell y c e
      rw[zuz ndP hp hu (by show scope.names.lookup y≠_;rw[k];decide)]at q
      exact q
  ·exact e0.hok.fresh (Nat.le_of_lt (x.above y c (PySem.mem_of_lookup h)))
  · unfold zbu
    show _=N.length
    rw[List.length_append,List.length_map,List.length_replicate]
    omega
theorem zagg{CX:CXT}{P:Program}{w:World}{K:PySem.W.Frag}{mg:Str->Option Value}{base:Heap}{k:Nat}{f:Addr}{name qual:Str}{params:Arguments}{body:List Stmt}{scope:Scope}{dV kV doc pm cdv ct oc:Value}{an od:Option Addr}
    {osl:Array (Option Value)} {N ps:List Str} {sp:Sp} (lk:K.lookup f=some ⟨oc,od,.func (PySem.W.fnOf name qual params body scope dV kV doc pm an cdv ct),osl⟩) (hcd:PySem.W.codeIn K cdv qual=true) (S:zaq N ps scope)
    (len:∀ vs H Q E,sp vs H Q E->vs.length=ps.length)
    (hbody:∀ (A:Around) (outer:List Env) (s:Shared) (H:Hp) (vs:List V) (Q:VK) (E:XK),Room k (A.deeper (envOfC qual scope s.heap.objs.size f cdv))->sp vs H Q E →
      ∃ t,PSs (cxOf CX P w K mg base N qual scope f cdv A outer s H E) body t/\t { nx:=λ_ H'=>Q .non H',rt:=Q } (zbu N vs) H) :
    FnOk P w K mg base CX (k+1) f (PySem.W.fnOf name qual params body scope dV kV doc pm an cdv ct) ps sp:=by
  refine⟨len,λA outer s H args us vs Q E hr e0 hb r hsp=> ?_⟩
  have hl:=len _ _ _ _ hsp
  have KX:K.In s.heap:=e0.mod.kin.keeps λb o e=>(e0.bs b o e).1
  have lim:s.heap.NoLimit:=e0.mod.nolimit.keeps λb o e=>(e0.bs b o e).1
  have hkind:∀ y∈ps.zip us,scope.names.lookup y.1=some .local\/(scope.names.lookup y.1=some .cell/\((cellsFrom (s.heap.objs.size+1) scope.names []).lookup y.1).isSome=true):=λ⟨n,v⟩ hy=>by
    rcases S.par n (List.of_mem_zip hy).1 with q | q
    ·exact .inl q
    ·exact .inr ⟨q,PySem.W.cellsFrom_some _ _ _ (.inl q)⟩
  refine codeAny_call_function hr.depth (KX _ _ lk) rfl S.co S.gen rfl (PySem.W.codeRec_of KX hcd) (hb _ _ _ _ ?_)
  refine wpAny_newFunctionEnv_cells S.kind hkind λenv he s1 x=> ?_
  subst he
  refine⟨lim.keeps x.toInCall.keep,codeAny_func ?_⟩
  obtain⟨t,ht,hq⟩:=hbody A outer s H vs Q E (hr.deeper _) hsp
  have I:Inv (cxOf CX P w K mg base N qual scope f cdv A outer s H E) [] (zbu N vs) H s1:=zz5 S hr.hd e0 hl r x
  refine wpAny_mono (ht [] s1 (zbu N vs) H _ I hq) (λfl s' hs=> ?_) λe s' hs=>hs
  have fin:∀ {σ':St} {H':Hp} {v:V} {u:Value},Inv (cxOf CX P w K mg base N qual scope f cdv A outer s H E) [] σ' H' s'->RelV v u->Q v H'->CE outer P w H s Q u s' :=
    λ{σ' H' v u} J rv q=>⟨v,H',J.os,J.bare,J.base,J.hok,rv,q⟩
  cases fl with
  | ret u =>
    obtain⟨v,σ',H',J,rv,q⟩:=hs
    exact fin J rv q
  | next =>
    obtain⟨σ',H',J,q⟩:=hs
    exact fin (v:=V.non) (u:=Value.none) J rfl q
  | brk =>
    obtain⟨_,_,_,q⟩:=hs
    exact False.elim q
  | cont =>
    obtain⟨_,_,_,q⟩:=hs
    exact False.elim q
end L2
namespace L2
open PySem PySem.Spec PyProof.Rows
section
variable{X:Cx}{x:Str}{p pos:Pos}{e:Expr}{es:List Expr}{t:TA}{id T:String}{r:List V->Hp->VK->Prop}
def tCB(r:List V->Hp->VK->Prop)(t:TA):TE:=λσ H Q=>t σ H λvs H1=>r vs H1 Q
theorem zch(hc:CallR X (.builtin id) r)(hg:Gl X x)(hm:X.mg x=none)(hv:bootBuiltins x=some (.builtin id))(ha:PA X (e::es) t)(hn:x≠"__name__":=by decide)(hdb:(x ==("__debug__":Str))=false:=by decide)
  (he:starEach (e::es) X.env=(false,eval e X.env)::starEach es X.env:=by rfl) (hpl:(backTo pos (starEach es X.env)).any (·.1)=false:=by rfl):PE X (.Call (.Name x p) (e::es) [] pos) (tCB r t):=by
 intro pins s σ H Q I h
 refine wpAny_Call_Name_kw (zus I hg hm hv ?_ hn hdb)
 exact PyProof.Rows.callWith_builtin1 (thn (ha pos pins s σ H _ I h) λus s1 ⟨vs,H1,I1,r1,q1⟩=>hc pins s1 σ H1 vs us Q I1 r1 q1) he hpl
theorem zf0(hc:CallR X (.type T) r)(hg:Gl X x)(hm:X.mg x=none)(hv:bootBuiltins x=some (.type T))(ha:PA X (e::es) t)(hn:x≠"__name__":=by decide)(hdb:(x ==("__debug__":Str))=false:=by decide)
  (he:starEach (e::es) X.env=(false,eval e X.env)::starEach es X.env:=by rfl) (hpl:(backTo pos (starEach es X.env)).any (·.1)=false:=by rfl):PE X (.Call (.Name x p) (e::es) [] pos) (tCB r t):=by
 intro pins s σ H Q I h
 refine wpAny_Call_Name_kw (zus I hg hm hv ?_ hn hdb)
 exact PyProof.Rows.callWith_type1 (thn (ha pos pins s σ H _ I h) λus s1 ⟨vs,H1,I1,r1,q1⟩=>hc pins s1 σ H1 vs us Q I1 r1 q1) he hpl
end
end L2
namespace HT
open PySem PyProof.Rows
section
open PySem.SeqAt
open PySem.AutoSeq1 (wpAny_loadPart')
open PySem.MeetsSeq PySem.MeetsSeq2 PySem.MeetsSeq3
end
section
variable{prog:Program}{w:World}{A:Around}{E:Value->Shared->Prop}{s:Shared}
theorem cat_tup{t b:Addr}{vs ws:List Value}{Q:Value->Shared->Prop}(ht:IsTup s.heap t vs.toArray)(hb:IsTup s.heap b ws.toArray)(hv:vs≠[])
  (h1:ws=[]->Q (.ref t) s) (h2:ws≠[]->Q (.ref s.heap.objs.size) { s with heap:=s.heap.push { cls:=.type "tuple",data:=.seq (vs++ws).toArray } })
  (hsz:vs.length+ws.length<=sizeLine):wpAny (model prog w) A (binaryOp .Add (.ref t) (.ref b)) Q E s:=by
 obtain⟨⟨cls,dd,data,sl⟩,ho,hc,n,hd⟩:=id ht
 obtain⟨⟨cls2,dd2,data2,sl2⟩,ho2,hc2,n2,hd2⟩:=id hb
 simp only at hc hd hc2 hd2
 subst hc hd hc2 hd2
 have e:vs.toArray++ws.toArray=(vs++ws).toArray:=by simp
 by_cases hw:ws=[]
 ·exact concat_meets ⟨_,ho,rfl⟩ ⟨_,ho2,rfl⟩ noFill_tuple_add seq_tuple_add PySem.F.slot_tuple_add PySem.F.entry_tuple_add (PySem.F.args_tuple_add_2 _ _)
   (tuple_addW1 t b vs.toArray ws.toArray n n2 dd dd2 sl sl2 (by simpa using hv) (by simp[hw])) ⟨ho,ho2,h1 hw⟩
 ·refine concat_meets ⟨_,ho,rfl⟩ ⟨_,ho2,rfl⟩ noFill_tuple_add seq_tuple_add PySem.F.slot_tuple_add PySem.F.entry_tuple_add (PySem.F.args_tuple_add_2 _ _)
   (tuple_addW2 t b vs.toArray ws.toArray n n2 dd dd2 sl sl2 (by simpa using hv) (by simpa using hw) (by rw[List.size_toArray,List.size_toArray];exact hsz)) ⟨ho,ho2,?_⟩
  rw[e]
  exact h2 hw
def sIx(n d:Nat):Option Int->Nat
 | none=>d
 | some v=>if v<0 then(v+(n:Int)).toNat else min v.toNat n
theorem zagh(n d:Nat)(hd:d<=n)(o:Option Int):sIx n d o<=n:=by
  cases o with
  | none=>exact hd
  | some v =>
    show(if v<0 then(v+(n:Int)).toNat else min v.toNat n)<=n
    by_cases hv:v<0
    ·rw[if_pos hv];omega
    ·rw[if_neg hv];exact Nat.min_le_right _ _
theorem zz6(v:Int)(n d:Nat):(if v<0 then max (v+(n:Int)) 0 else min v (n:Int))=((sIx n d (some v):Nat):Int):=by
 show(if v<0 then max (v+(n:Int)) 0 else min v (n:Int))=(((if v<0 then(v+(n:Int)).toNat else min v.toNat n):Nat):Int)
 by_cases hv:v<0
 ·simp only[if_pos hv];omega
 ·simp only[if_neg hv];omega
theorem zy3(lo hi:Option Int)(n:Nat):Builtin.Slice.sliceAdjust lo hi 1 (n:Int)=(((sIx n 0 lo:Nat):Int),((sIx n n hi:Nat):Int)):=by
 have h1:¬ ((1:Int)<0):=by omega
 unfold Builtin.Slice.sliceAdjust
 simp only[h1,if_false]
 refine Prod.ext ?_ ?_
 ·cases lo with
  | none=>rfl
  | some v=>exact zz6 v n 0
 ·cases hi with
  | none=>rfl
  | some v=>exact zz6 v n n
theorem zy4(i j:Nat):Builtin.Slice.slicePlaces (i:Int) (j:Int) 1=j - i:=by
 unfold Builtin.Slice.slicePlaces
 have h1:(1:Int) > 0:=by omega
 simp only[h1,if_true,Int.ediv_one]
 split<;>omega
theorem zs0{v:Value}{o:Option Int}{Q:Option Int->Shared->Prop}(p:IsPart v o)(h:Q o s):wpAny (model prog w) A (Builtin.Slice.slicePartIndex v) Q E s:=by
 cases p with
 | none=>exact slicePart_none h
 | int i t=>exact slicePart_int h
theorem zou{sl:Addr}{vl vu:Value}{lo hi:Option Int}{n:Nat}{Q:Int × Int × Nat->Shared->Prop}(hs:s.heap.IsSliceOf sl vl vu .none)(pl:IsPart vl lo)(pu:IsPart vu hi)
  (h:Q (((sIx n 0 lo:Nat):Int),1,sIx n n hi - sIx n 0 lo) s):wpAny (model prog w) A (Builtin.Slice.sliceApplied (.ref sl) (pure (n:Int))) Q E s:=by
 obtain⟨os,hos,hcs,hds⟩:=id hs
 unfold Builtin.Slice.sliceApplied Builtin.Slice.sliceFields
 refine wpAny_bind (wpAny_bind (wpAny_field hos hds (x:=vl) rfl (wpAny_bind (wpAny_field hos hds (x:=vu) rfl (wpAny_bind (wpAny_field hos hds (x:=.none) rfl (wpAny_pure ?_)))))))
 refine wpAny_bind (slicePart_none ?_)
 show wpAny _ _ (if((1:Int) == 0)=true then _ else _) _ _ s
 rw[if_neg (by decide)]
 refine wpAny_bind (zs0 pl (wpAny_bind (zs0 pu (wpAny_bind (wpAny_pure ?_)))))
 show wpAny _ _ (match Builtin.Slice.sliceAdjust lo hi 1 (n:Int)with | (lo,hi)=>pure (lo,(1:Int),Builtin.Slice.slicePlaces lo hi 1)) _ _ s
 rw[zy3 lo hi n]
 show wpAny _ _ (pure (((sIx n 0 lo:Nat):Int),(1:Int),Builtin.Slice.slicePlaces ((sIx n 0 lo:Nat):Int) ((sIx n n hi:Nat):Int) 1)) _ _ s
 rw[zy4]
 exact wpAny_pure h
theorem zab0(xs:Array Value)(i k:Nat):((List.range k).filterMap λ(m:Nat)=>xs[((i:Int)+(m:Int) * 1).toNat]?).toArray=((xs.toList.drop i).take k).toArray:=by
 have e:(λ(m:Nat)=>xs[((i:Int)+(m:Int) * 1).toNat]?)=λm=>xs[i+m]? :=by
  funext m
  have:((i:Int)+(m:Int) * 1).toNat=i+m:=by omega
  rw[this]
 rw[e]
 have:=pick_run xs i k
 rw[List.filterMap_map]at this
 have e2:((λx=>xs[x]?) ∘ λx=>i+x)=λm=>xs[i+m]? :=rfl
 rw[e2]at this
 rw[this]
theorem getItem_tuple_cut{t sl:Addr}{items:Array Value}{vl vu:Value}{lo hi:Option Int}{Q:Value->Shared->Prop}(ht:IsTup s.heap t items)(hs:s.heap.IsSliceOf sl vl vu .none)(pl:IsPart vl lo)(pu:IsPart vu hi)
  (hw:¬ (sIx items.size 0 lo=0/\sIx items.size items.size hi=items.size))
  (h:Q (.ref s.heap.objs.size) { s with heap:=s.heap.push { cls:=.type "tuple",data:=.seq ((items.toList.drop (sIx items.size 0 lo)).take (sIx items.size items.size hi - sIx items.size 0 lo)).toArray } })
  (hsz:items.size<=sizeLine):wpAny (model prog w) A (getItem (.ref t) (.ref sl)) Q E s:=by
 have htake:sizeOk (.seq ((items.toList.drop (sIx items.size 0 lo)).take (sIx items.size items.size hi - sIx items.size 0 lo)).toArray):=by
  show((items.toList.drop (sIx items.size 0 lo)).take (sIx items.size items.size hi - sIx items.size 0 lo)).toArray.size<=sizeLine
  rw[List.size_toArray,List.length_take,List.length_drop,Array.length_toList]
  omega
 have hj:sIx items.size items.size hi<=items.size:=zagh _ _ (Nat.le_refl _) hi
 obtain⟨os,hos,hcs,hds⟩:=id hs
 have hTs:s.TypeIs (.ref sl) "slice":=⟨os,hos,hcs⟩
 unfold getItem
 try with_reducible refine wpAny_holding ?_
 first | refine wpAny_bind (wpAny_pure ?_) | skip
 refine wpAny_bind (wpAny_sequenceKey ht.typeIs (by decide) ?_)
 refine wpAny_bind (wpAny_callSpecial?_slot (name:=Str.ofString "__getitem__") ht.typeIs PyProof.Rows.slot_tuple_getitem
  (wpAny_call_entry PyProof.Rows.slot_tuple_getitem ht.typeIs entry_tuple_getitem ?_ (args_tuple_getitem _ _)))
 show wpAny _ _ (Builtin.Tuple.tupleItemsOf (.ref t) >>= _) _ _ s
 refine wpAny_bind (tupleItemsOf_ ht ?_)
 refine wpAny_bind (wpAny_typeOf hTs ?_)
 rw[if_pos (by decide)]
 refine wpAny_bind (zou hs pl pu ?_)
 have hno:¬ ((((sIx items.size 0 lo:Nat):Int) == 0 && (1:Int) == 1 && (sIx items.size items.size hi - sIx items.size 0 lo) == items.size)=true):=by
  intro q
  rw[Bool.and_eq_true,Bool.and_eq_true]at q
  have q1:((sIx items.size 0 lo:Nat):Int)=0:=eq_of_beq q.1.1
  have q2:sIx items.size items.size hi - sIx items.size 0 lo=items.size:=eq_of_beq q.2
  exact hw ⟨by omega,by omega⟩
 show wpAny _ _ (if(((sIx items.size 0 lo:Nat):Int) == 0 && (1:Int) == 1 && (sIx items.size items.size hi - sIx items.size 0 lo) == items.size)=true then _ else _) _ _ s
 rw[if_neg hno,zab0]
 first
  | exact wpAny_bind (m:=Builtin.Tuple.tupleExact _) (wpAny_newObj_type (wpAny_pure ⟨_,rfl,wpAny_pure h⟩) htake)
  | exact wpAny_bind (m:=Builtin.Tuple.tupleExact _) (wpAny_newObj_type (wpAny_bind (wpAny_pure (wpAny_pure ⟨_,rfl,wpAny_pure h⟩))) htake)
  | exact wpAny_bind (wpAny_bind (m:=Builtin.Tuple.tupleExact _) (wpAny_newObj_type (wpAny_pure (wpAny_pure ⟨_,rfl,wpAny_pure h⟩)) htake))
  | exact wpAny_bind (wpAny_bind (m:=Builtin.Tuple.tupleExact _) (wpAny_newObj_type (wpAny_pure ⟨_,rfl,wpAny_pure h⟩) htake))
end
end HT
namespace L2
open PySem PySem.Spec PyProof.Rows
abbrev TO:=St->Hp->(Option Int->Hp->Prop)->Prop
def PO (X:Cx) (e:Option Expr) (t:TO):Prop :=
  ∀ (pins:List (Addr × Obj)) (s:Shared) (σ:St) (H:Hp) (Q:Option Int->Hp->Prop),Inv X pins σ H s->t σ H Q →
    wpAny (model X.prog X.w) X.A (evalPart e X.env) (λu s'=>∃ o H',Inv X pins σ H' s'/\IsPart u o/\Q o H') X.xe s
def zth:TO:=λ_ H Q=>Q none H
def zab1(t:TE):TO:=λσ H Q=>t σ H λx H1=>∃ i,x=.int i/\Q (some i) H1
section
variable{X:Cx}{e:Expr}{te:TE}{lo hi:Option Expr}{tl th:TO}{pos p2:Pos}
theorem zz7:PO X none zth:=by
 intro pins s σ H Q I h
 rw[evalPart_none]
 exact wpAny_pure ⟨none,H,I,.none,h⟩
theorem zz8(h:PE X e te):PO X (some e) (zab1 te):=by
 intro pins s σ H Q I hw
 rw[evalPart_some]
 refine thn (h pins s σ H _ I hw) λu s1 ⟨x,H1,I1,r1,q1⟩=> ?_
 obtain⟨i,rfl,q⟩:=q1
 obtain⟨t,rfl⟩:=r1
 exact⟨some i,H1,I1,.int i t,q⟩
def SlR (X:Cx) (r:V->Option Int->Option Int->Hp->VK->Prop):Prop :=
  ∀ (pins:List (Addr × Obj)) (s:Shared) (σ:St) (H:Hp) (x:V) (v vl vu:Value) (lo hi:Option Int) (sl:Addr) (Q:VK),Inv X pins σ H s->RelV x v->s.heap.IsSliceOf sl vl vu .none->IsPart vl lo->IsPart vu hi->r x lo hi H Q →
    ∃ T id,typeLookup (.type T) "__getitem__"=pure (some (.builtin id))/\s.TypeIs v T/\wpAny (model X.prog X.w) X.A (getItem v (.ref sl)) (EP X pins σ Q) X.xe s
theorem SlR.or{r r':V->Option Int->Option Int->Hp->VK->Prop}(h:SlR X r)(h':SlR X r'):SlR X (λx lo hi H Q=>r x lo hi H Q\/r' x lo hi H Q):=by
 intro pins s σ H x v vl vu lo hi sl Q I rx hs pl pu q
 rcases q with q | q
 ·exact h pins s σ H x v vl vu lo hi sl Q I rx hs pl pu q
 ·exact h' pins s σ H x v vl vu lo hi sl Q I rx hs pl pu q
def tSl(r:V->Option Int->Option Int->Hp->VK->Prop)(te:TE)(tl th:TO):TE:=λσ H Q=>te σ H λx H1=>tl σ H1 λl H2=>th σ H2 λu H3=>r x l u H3 Q
theorem zx3{r:V->Option Int->Option Int->Hp->VK->Prop}(hr:SlR X r)(he:PE X e te)(hl:PO X lo tl)(hu:PO X hi th):PE X (.Subscript e (.Slice lo hi none p2) pos) (tSl r te tl th):=by
 intro pins s σ H Q I h
 refine Subscript_ (thn (he pins s σ H _ I h) λv s1 ⟨x,H1,I1,r1,q1⟩=> ?_)
 refine wpAny_Slice (thn (hl pins s1 σ H1 _ I1 q1) λvl s2 ⟨l,H2,I2,pl,q2⟩=>thn (hu pins s2 σ H2 _ I2 q2) λvu s3 ⟨u,H3,I3,pu,q3⟩=> ?_)
 rw[evalPart_none]
 refine wpAny_pure ?_
 have I4:Inv X pins σ H3 { s3 with heap:=s3.heap.push { cls:=.type "slice",data:=.fields #[vl,vu,.none] } }:=I3.kept (t':=s3.toks) λb ob q=>Heap.get?_push_of_some _ q
 obtain⟨T,id,hT,ht,hg⟩:=hr pins { s3 with heap:=s3.heap.push { cls:=.type "slice",data:=.fields #[vl,vu,.none] } } σ H3 x v vl vu l u s3.heap.objs.size Q I4 r1 (Heap.IsSliceOf.new ..) pl pu q3
 show wpAny (model X.prog X.w) X.A (subscriptTail e (.Slice lo hi none p2) v (.ref s3.heap.objs.size)) (EP X pins σ Q) X.xe { s3 with heap:=s3.heap.push { cls:=.type "slice",data:=.fields #[vl,vu,.none] } }
 exact tail_any (ops:=[.ref s3.heap.objs.size,v]) ht hT hg (by with_unfolding_all rfl)
def cutV(xs:List V)(lo hi:Option Int):List V:=(xs.drop (HT.sIx xs.length 0 lo)).take (HT.sIx xs.length xs.length hi - HT.sIx xs.length 0 lo)
theorem zqh(xs:List V)(lo hi:Option Int):(cutV xs lo hi).length<=xs.length:=by
 unfold cutV
 rw[List.length_take,List.length_drop]
 omega
def rSlT(K:PySem.W.Frag):V->Option Int->Option Int->Hp->VK->Prop:=λx lo hi H Q=>∃ a xs,x=.ref a/\SqT K H a xs ∧
 ¬ (HT.sIx xs.length 0 lo=0/\HT.sIx xs.length xs.length hi=xs.length)/\∀ p,H p=none->Q (.ref p) (upd H p (.tup (cutV xs lo hi)))
theorem zagi:SlR X (rSlT X.K):=by
 intro pins s σ H x v vl vu lo hi sl Q I rx hs pl pu h
 obtain⟨a,xs,rfl,hx,hw,q⟩:=h
 cases rx
 obtain⟨its,r,ht,hz⟩:=I.tuple hx
 have hlen:its.toArray.size=xs.length:=by rw[List.size_toArray];exact r.length.symm
 refine⟨"tuple",_,PyProof.Rows.slot_tuple_getitem.lookup,ht.typeIs,?_⟩
 refine HT.getItem_tuple_cut ht hs pl pu (by rw[hlen];exact hw) ?_ (by rw[hlen];exact hz)
 rw[hlen]
 refine⟨.ref s.heap.objs.size,_,I.laid (t':=s.toks) (o:=.tup (cutV xs lo hi)) (λb ob q=>Heap.get?_push_of_some _ q) (Nat.le_refl _) ?_,rfl,q _ (I.hok.fresh (Nat.le_refl _))⟩
 exact⟨Nat.le_trans (zqh xs lo hi) hz,_,(r.drop (HT.sIx xs.length 0 lo)).take (HT.sIx xs.length xs.length hi - HT.sIx xs.length 0 lo),IsTup.new _ _⟩
def zad6(K:PySem.W.Frag):R2:=λx y H Q=>∃ a b xs ys,x=.ref a/\y=.ref b/\SqT K H a xs/\SqT K H b ys/\xs≠[]/\xs.length+ys.length<=sizeLine ∧
 (ys=[]->Q (.ref a) H)/\(ys≠[]->∀ p,H p=none->Q (.ref p) (upd H p (.tup (xs++ys))))
theorem Vals.nil_iff{xs:List V}{us:List Value}(r:Vals xs us):us=[]↔xs=[]:=by
 cases r with
 | nil=>simp
 | cons _ _=>simp
theorem zad7:OpR X (binaryOp .Add) (zad6 X.K):=by
 intro pins s σ H x y v u Q I rx ry h
 obtain⟨a,b,xs,ys,rfl,rfl,ha,hb,hx,hz,q1,q2⟩:=h
 cases rx
 cases ry
 obtain⟨its,r1,p1,_⟩:=I.tuple ha
 obtain⟨its2,r2,p2,_⟩:=I.tuple hb
 refine HT.cat_tup p1 p2 (λz=>hx (r1.nil_iff.mp z)) (λz=>⟨.ref a,H,I,rfl,q1 (r2.nil_iff.mp z)⟩) (λz=> ?_) (by rw[<-r1.length,<-r2.length];exact hz)
 refine⟨.ref s.heap.objs.size,_,I.laid (t':=s.toks) (o:=.tup (xs++ys)) (λb ob q=>Heap.get?_push_of_some _ q) (Nat.le_refl _) ?_,rfl,q2 (λw=>z (r2.nil_iff.mpr w)) _ (I.hok.fresh (Nat.le_refl _))⟩
 exact⟨by rw[List.length_append];exact hz,_,r1.append r2,IsTup.new _ _⟩
end
end L2
namespace L2
open PySem PySem.Spec PyProof.Rows
def ixN(n:Nat)(i:Int):Option Nat:=if 0<=i then(if i<n then some i.toNat else none)else if -(n:Int)<=i then some (i+n).toNat else none
def atI{α :Type}(xs:List α)(i:Int):Option α :=(ixN xs.length i).bind λj=>xs[j]?
theorem zz9{n:Nat}{i:Int}{j:Nat}(h:ixN n i=some j):seqIndex? i n=some j/\j<n/\ -(n:Int)<=i/\i<n:=by
 unfold ixN at h
 by_cases h0:0<=i
 ·rw[if_pos h0]at h
  by_cases h1:i<n
  ·rw[if_pos h1]at h
   have e:i.toNat=j:=Option.some.inj h
   exact⟨by rw[seqIndex_of h0 h1,e],by omega,by omega,h1⟩
  ·rw[if_neg h1]at h;cases h
 ·rw[if_neg h0]at h
  by_cases h1: -(n:Int)<=i
  ·rw[if_pos h1]at h
   have e:(i+n).toNat=j:=Option.some.inj h
   exact⟨by rw[seqIndex_neg (by omega) h1,e],by omega,h1,by omega⟩
  ·rw[if_neg h1]at h;cases h
theorem zwt{α :Type}{xs:List α}{i:Int}{v: α}(h:atI xs i=some v):∃ j,seqIndex? i xs.length=some j/\xs[j]? =some v/\j<xs.length/\ -(xs.length:Int)<=i/\i<xs.length:=by
  unfold atI at h
  cases e:ixN xs.length i with
  | none=>rw[e]at h;cases h
  | some j =>
    rw[e]at h
    obtain⟨h1,h2,h3,h4⟩:=zz9 e
    exact⟨j,h1,h,h2,h3,h4⟩
theorem zwu{α :Type}{xs:List α}{j:Nat}{v: α}(h:xs[j]? =some v):atI xs (j:Int)=some v:=by
 have hj:j<xs.length:=(List.getElem?_eq_some_iff.mp h).1
 have e:ixN xs.length (j:Int)=some j:=by
  unfold ixN
  rw[if_pos (by omega),if_pos (by omega)];simp
 unfold atI;rw[e];exact h
def zad8(b:Expr):Prop:=∀ o i,subscripted b false o i=operate [o,i] (getItem o i)
def IxR (X:Cx) (r:R2):Prop :=
  ∀ (value slice:Expr) (pins:List (Addr × Obj)) (s:Shared) (σ:St) (H:Hp) (x y:V) (v u:Value) (Q:VK),Inv X pins σ H s->RelV x v->RelV y u->r x y H Q →
    subscripted slice false v u=operate [v,u] (getItem v u)->wpAny (model X.prog X.w) X.A (subscriptTail value slice v u) (EP X pins σ Q) X.xe s
def MtR (X:Cx) (id:String) (r:V->List V->Hp->VK->Prop):Prop :=
  ∀ (pins:List (Addr × Obj)) (s:Shared) (σ:St) (H:Hp) (x:V) (xs:List V) (v:Value) (us:List Value) (Q:VK),Inv X pins σ H s->RelV x v->Vals xs us->r x xs H Q →
    wpAny (model X.prog X.w) X.A (call (.builtin id) (v::us)) (EP X pins σ Q) X.xe s
section
variable{X:Cx}{a b:Expr}{ta tb:TE}{pos:Pos}
theorem IxR.or{r r':R2}(h:IxR X r)(h':IxR X r'):IxR X (λx y H Q=>r x y H Q\/r' x y H Q):=by
 intro value slice pins s σ H x y v u Q I rx ry q hs
 rcases q with q | q
 ·exact h value slice pins s σ H x y v u Q I rx ry q hs
 ·exact h' value slice pins s σ H x y v u Q I rx ry q hs
theorem MtR.or{id:String}{r r':V->List V->Hp->VK->Prop}(h:MtR X id r)(h':MtR X id r'):MtR X id (λx xs H Q=>r x xs H Q\/r' x xs H Q):=by
 intro pins s σ H x xs v us Q I rx rs q
 rcases q with q | q
 ·exact h pins s σ H x xs v us Q I rx rs q
 ·exact h' pins s σ H x xs v us Q I rx rs q
theorem zdb{r:R2}(hr:IxR X r)(ha:PE X a ta)(hb:PE X b tb)(hs:zad8 b):PE X (.Subscript a b pos) (tOp r ta tb):=by
 intro pins s σ H Q I h
 exact Subscript_ (binT ha hb I h λv u s2 x y H2 I2 rx ry q=>hr a b pins s2 σ H2 x y v u Q I2 rx ry q (hs _ _))
def rIxL(K:PySem.W.Frag):R2:=λx y H Q=>∃ p xs i v,x=.ref p/\y=.int i/\SqL K H p xs/\atI xs i=some v/\Q v H
def rIxT(K:PySem.W.Frag):R2:=λx y H Q=>∃ p xs i v,x=.ref p/\y=.int i/\SqT K H p xs/\atI xs i=some v/\Q v H
def rIxS:R2:=λx y H Q=>∃ z i c,x=.str z/\y=.int i/\z.length<=sizeLine/\atI z.cps.toList i=some c/\Q (.str ⟨#[c]⟩) H
theorem ix_list:IxR X (rIxL X.K):=by
 intro value slice pins s σ H x y v u Q I rx ry h hs
 obtain⟨p,xs,i,z,rfl,rfl,hq,he,q⟩:=h
 cases rx
 obtain⟨t,rfl⟩:=ry
 obtain⟨its,r,pl,hz⟩:=I.list hq
 obtain⟨j,h1,h2,h3,h4,h5⟩:=zwt he
 obtain⟨w,ew,rw'⟩:=r.get h2
 have hl:=r.length
 have hn:=zsw
 have fin:EP X pins σ Q w s:=⟨z,H,I,rw',q⟩
 by_cases h0:0<=i
 ·have hj:i.toNat=j:=by
   rw[seqIndex_of h0 h5]at h1
   exact Option.some.inj h1
  exact item_listR pl.isList h0 (by omega) (by rw[hj];simpa using ew) fin hs
 ·have hj:(i+(its.toArray.size:Int)).toNat=j:=by
   rw[seqIndex_neg (by omega) h4]at h1
   rw[List.size_toArray,<-hl]
   exact Option.some.inj h1
  exact subscriptTail_builtinR (x:=w) pl.isList.typeIs slot_list_getitem.lookup
   (wpAny_getItem_list_neg (Q:=λr s'=>r=w/\EP X pins σ Q r s') pl.isList (by omega) (by rw[List.size_toArray]<;>omega) (by omega) (by rw[hj];simpa using ew) ⟨rfl,fin⟩) hs
theorem ix_tup:IxR X (rIxT X.K):=by
 intro value slice pins s σ H x y v u Q I rx ry h hs
 obtain⟨p,xs,i,z,rfl,rfl,hq,he,q⟩:=h
 cases rx
 obtain⟨t,rfl⟩:=ry
 obtain⟨its,r,pl,hz⟩:=I.tuple hq
 obtain⟨j,h1,h2,h3,h4,h5⟩:=zwt he
 obtain⟨w,ew,rw'⟩:=r.get h2
 have hl:=r.length
 have hn:=zsw
 have fin:EP X pins σ Q w s:=⟨z,H,I,rw',q⟩
 exact subscriptTail_builtinR (x:=w) pl.typeIs slot_tuple_getitem.lookup
  (getItem_tuple (j:=j) (Q:=λr s'=>r=w/\EP X pins σ Q r s') pl (by omega) (by omega) (by rw[List.size_toArray,<-hl];exact h1) (by simpa using ew) ⟨rfl,fin⟩) hs
theorem zagj:IxR X rIxS:=by
 intro value slice pins s σ H x y v u Q I rx ry h hs
 obtain⟨z,i,c,rfl,rfl,hz,he,q⟩:=h
 obtain⟨t,rfl⟩:=rx
 obtain⟨t',rfl⟩:=ry
 obtain⟨j,h1,h2,h3,h4,h5⟩:=zwt he
 have hl:z.cps.toList.length=z.length:=by simp[Str.length]
 rw[hl]at h1 h4 h5
 have hn:=zsw
 exact tail_any (typeIs_str s z t) slot_str_getitem.lookup (getItem_str (c:=c) (by
  have e1:decide (i< -(2 ^ 63:Int))=false:=decide_eq_false (by omega)
  have e2:decide (i ≥ 2 ^ 63)=false:=decide_eq_false (by omega)
  rw[e1,e2,Bool.or_false]) (by rw[h1];simpa using h2) ⟨.str ⟨#[c]⟩,H,I.tok _,⟨_,rfl⟩,q⟩) hs
def rIx(K:PySem.W.Frag):R2:=λx y H Q=>rIxL K x y H Q\/rIxT K x y H Q\/rIxS x y H Q
theorem zagk:IxR X (rIx X.K):=ix_list.or (ix_tup.or zagj)
theorem zy5(its:List Value)(n j:Nat)(u:Value):Obj.mapSeq (·.setIfInBounds j u) { cls:=.type "list",data:=.seq its.toArray n }={ cls:=.type "list",data:=.seq (its.set j u).toArray n }:=by
 simp[Obj.mapSeq]
theorem Inv.lst{pins:List (Addr × Obj)}{σ:St}{H:Hp}{s:Shared}{p:Addr}{xs:List V}(I:Inv X pins σ H s)(h:H p=some (.lst xs)) :
  ∃ (its:List Value) (n:Nat),Vals xs its/\s.heap.get? p=some { cls:=.type "list",data:=.seq its.toArray n }/\xs.length<=sizeLine:=by
 obtain⟨z,its,n,r,e⟩:=I.hok p _ h
 exact⟨its,n,r,e,z⟩
theorem Inv.lstUpd{pins:List (Addr × Obj)}{σ:St}{H:Hp}{s:Shared}{p:Addr}{xs ys:List V}{its its':List Value}{n n':Nat}{f:Obj->Obj}(I:Inv X pins σ H s)(h:H p=some (.lst xs))
  (ho:s.heap.get? p=some { cls:=.type "list",data:=.seq its.toArray n }) (hf:f { cls:=.type "list",data:=.seq its.toArray n }={ cls:=.type "list",data:=.seq its'.toArray n' }) (r:Vals ys its') (hz:ys.length<=sizeLine) (t:Nat) :
  Inv X pins σ (upd H p (.lst ys)) { s with heap:=s.heap.update p f,toks:=t }:=by
 have e:(s.heap.update p f).get? p=some { cls:=.type "list",data:=.seq its'.toArray n' }:=by
  rw[Heap.get?_update_self f ho (by rw[hf]<;>rfl),hf]
 refine I.write (x:=p) (e:=p) (by rw[h];trivial) (.inl rfl) (λb u hb q=>(Heap.get?_update_other _ _ (Ne.symm hb)).trans q) ⟨_,e⟩ ?_
 exact⟨hz,its',n',r,e⟩
def zagl:V->V->V->Hp->(Hp->Prop)->Prop:=λo i v H Q=>∃ p xs k j,o=.ref p/\i=.int k/\H p=some (.lst xs)/\ixN xs.length k=some j/\Q (upd H p (.lst (xs.set j v)))
theorem zab2:PSet X zagl:=by
 intro pins s σ H o i v ov iv u Q I ro ri rv h
 obtain⟨p,xs,k,j,rfl,rfl,hp,hj,q⟩:=h
 cases ro
 obtain⟨t,rfl⟩:=ri
 obtain⟨its,n,r,ho,hz⟩:=I.lst hp
 obtain⟨h1,h2,h3,h4⟩:=zz9 hj
 have hl:=r.length
 have hn:=zsw
 have I':Inv X pins σ (upd H p (.lst (xs.set j v))) { s with heap:=s.heap.update p (Obj.mapSeq (·.setIfInBounds j u)) } :=
  I.lstUpd hp ho (zy5 its n j u) (r.set rv j) (by rw[List.length_set];exact hz) s.toks
 by_cases h0:0<=k
 ·have hk:k.toNat=j:=by
   rw[seqIndex_of h0 h4]at h1
   exact Option.some.inj h1
  exact PySem.W.ki_setAt ho h0 (by omega) (by rw[List.size_toArray,<-hl];exact h4) (by rw[hk];exact⟨_,I',q⟩)
 ·have hk:(k+(its.toArray.size:Int)).toNat=j:=by
   rw[seqIndex_neg (by omega) h3]at h1
   rw[List.size_toArray,<-hl]
   exact Option.some.inj h1
  exact PySem.W.ki_setBack ho (by omega) (by rw[List.size_toArray,<-hl];exact h3) (by omega) (by rw[hk];exact⟨_,I',q⟩)
theorem zu0(lo hi:Option Int)(n:Nat):(sliceBounds lo hi none n).1=((HT.sIx n 0 lo:Nat):Int)/\(sliceBounds lo hi none n).2.1=((HT.sIx n n hi:Nat):Int)/\(sliceBounds lo hi none n).2.2=1:=by
  refine⟨?_,?_,rfl⟩
  · cases lo with
    | none=>simp[sliceBounds,HT.sIx]
    | some i =>
      simp only[sliceBounds,HT.sIx,Option.getD_none,show(1:Int) > 0 by decide,if_true]
      by_cases h:i<0
      ·simp only[h,if_true]<;>omega
      ·simp only[h,if_false]<;>omega
  · cases hi with
    | none=>simp[sliceBounds,HT.sIx]
    | some i =>
      simp only[sliceBounds,HT.sIx,Option.getD_none,show(1:Int) > 0 by decide,if_true]
      by_cases h:i<0
      ·simp only[h,if_true]<;>omega
      ·simp only[h,if_false]<;>omega
theorem zti(its:List Value)(lo hi:Option Int):slicePick its.toArray lo hi none=((its.drop (HT.sIx its.length 0 lo)).take (HT.sIx its.length its.length hi - HT.sIx its.length 0 lo)).toArray:=by
 obtain⟨h1,h2,h3⟩:=zu0 lo hi its.toArray.size
 unfold slicePick
 rw[h1,h2,h3]
 simp only[sliceRange_one,pick_run,List.size_toArray]<;>rfl
def rSlL(K:PySem.W.Frag):V->Option Int->Option Int->Hp->VK->Prop:=λx lo hi H Q=>∃ a xs,x=.ref a/\SqL K H a xs/\∀ p,H p=none->Q (.ref p) (upd H p (.lst (cutV xs lo hi)))
theorem zad9:SlR X (rSlL X.K):=by
 intro pins s σ H x v vl vu lo hi sl Q I rx hs pl pu h
 obtain⟨a,xs,rfl,hx,q⟩:=h
 cases rx
 obtain⟨its,r,ht,hz⟩:=I.list hx
 have hlen:=r.length
 refine⟨"list",_,slot_list_getitem.lookup,ht.isList.typeIs,?_⟩
 refine wpAny_getItem_list_slice ht.isList hs pl pu .none (by simp) ?_ (by rw[List.size_toArray]<;>omega)
 rw[zti,<-hlen]
 refine⟨.ref s.heap.objs.size,_,I.laid (t':=s.toks) (o:=.lst (cutV xs lo hi)) (λb ob q=>Heap.get?_push_of_some _ q) (Nat.le_refl _) ?_,rfl,q _ (I.hok.fresh (Nat.le_refl _))⟩
 exact⟨Nat.le_trans (zqh xs lo hi) hz,_,0,(r.drop (HT.sIx xs.length 0 lo)).take (HT.sIx xs.length xs.length hi - HT.sIx xs.length 0 lo),Heap.get?_push_size _ rfl⟩
def zov:V->Bool
 | .non=>true
 | .bl _=>true
 | .int _=>true
 | .str _=>true
 | _=>false
def eqV:V->V->Bool
 | .non,.non=>true
 | .bl a,.bl b=>a == b
 | .bl a,.int b=>(if a then 1 else 0) == b
 | .int a,.bl b=>a ==(if b then 1 else 0)
 | .int a,.int b=>a == b
 | .str a,.str b=>a == b
 | _,_=>false
theorem zagm{A:Around}{s:Shared}{y x:V}{u v:Value}(ry:RelV y u)(rx:RelV x v)(fy:zov y=true)(fx:zov x=true):SeqAt.EqAt A s u v (eqV y x):=by
  cases y with
  | non =>
    cases ry
    cases x with
    | non=>cases rx;exact SeqAt.EqAt.same _
    | bl b=>cases rx;exact SeqAt.EqAt.none_bool b
    | int b=>obtain⟨t,rfl⟩:=rx;exact SeqAt.EqAt.none_int b t
    | str b=>obtain⟨t,rfl⟩:=rx;exact SeqAt.EqAt.none_str b t
    | _=>exact absurd (show false=true from fx) Bool.false_ne_true
  | bl a =>
    cases ry
    cases x with
    | non=>cases rx;exact SeqAt.EqAt.bool_none a
    | bl b=>cases rx;exact SeqAt.EqAt.bool_bool a b
    | int b=>obtain⟨t,rfl⟩:=rx;exact SeqAt.EqAt.bool_int a b t
    | str b=>obtain⟨t,rfl⟩:=rx;exact SeqAt.EqAt.bool_str a b t
    | _=>exact absurd (show false=true from fx) Bool.false_ne_true
  | int a =>
    obtain⟨t',rfl⟩:=ry
    cases x with
    | non=>cases rx;exact SeqAt.EqAt.int_none a t'
    | bl b=>cases rx;exact SeqAt.EqAt.int_bool a t' b
    | int b=>obtain⟨t,rfl⟩:=rx;exact SeqAt.EqAt.int_int a t' b t
    | str b=>obtain⟨t,rfl⟩:=rx;exact SeqAt.EqAt.int_str a t' b t
    | _=>exact absurd (show false=true from fx) Bool.false_ne_true
  | str a =>
    obtain⟨t',rfl⟩:=ry
    cases x with
    | non=>cases rx;exact SeqAt.EqAt.str_none a t'
    | bl b=>cases rx;exact SeqAt.EqAt.str_bool a t' b
    | int b=>obtain⟨t,rfl⟩:=rx;exact SeqAt.EqAt.str_int a t' b t
    | str b=>obtain⟨t,rfl⟩:=rx;exact SeqAt.EqAt.str_str a t' b t
    | _=>exact absurd (show false=true from fx) Bool.false_ne_true
  | _=>exact absurd (show false=true from fy) Bool.false_ne_true
def eqU(x:V)(u:Value):Bool:=match u with
 | .none=>eqV .non x
 | .bool b=>eqV (.bl b) x
 | .int i _=>eqV (.int i) x
 | .str z _=>eqV (.str z) x
 | _=>false
theorem zadj{x y:V}{u:Value}(r:RelV y u)(f:zov y=true):eqU x u=eqV y x:=by
 cases y with
 | non=>cases r;rfl
 | bl b=>cases r;rfl
 | int i=>obtain⟨t,rfl⟩:=r;rfl
 | str z=>obtain⟨t,rfl⟩:=r;rfl
 | _=>exact absurd (show false=true from f) Bool.false_ne_true
theorem zwv{x:V}:∀ {xs:List V} {us:List Value},Vals xs us->xs.all zov=true->us.any (eqU x)=xs.any λy=>eqV y x
  | _,_,.nil,_=>rfl
  | y::xs,u::us,.cons r t,f=>by
    rw[List.all_cons,Bool.and_eq_true]at f
    rw[List.any_cons,List.any_cons,zadj r f.1,zwv t f.2]
theorem ztj{A:Around}{s:Shared}{x:V}{v:Value}(rx:RelV x v)(fx:zov x=true):∀ {xs:List V} {us:List Value},Vals xs us->xs.all zov=true->∀ u∈us,SeqAt.EqAt A s u v (eqU x u)
  | _,_,.nil,_=>λu hu=>by cases hu
  | y::xs,u::us,.cons r t,f=>λu' hu=>by
    rw[List.all_cons,Bool.and_eq_true]at f
    rcases List.mem_cons.mp hu with rfl | hu
    ·rw[zadj r f.1];exact zagm r rx f.1 fx
    ·exact ztj rx fx t f.2 u' hu
def inV(x:V)(xs:List V):Bool:=xs.any λy=>eqV y x
def rIn(K:PySem.W.Frag)(neg:Bool):R2:=λx y H Q=>∃ p xs,y=.ref p/\(SqL K H p xs\/SqT K H p xs)/\zov x=true/\xs.all zov=true/\Q (.bl (if neg then !inV x xs else inV x xs)) H
theorem zaaa:OpR X (compareOp .In) (rIn X.K false):=by
 intro pins s σ H x y v u Q I rx ry h
 obtain⟨p,xs,rfl,hq,fx,fs,q⟩:=h
 cases ry
 rcases hq with hq | hq
 ·obtain⟨its,r,pl,hz⟩:=I.list hq
  refine SeqAt.in_listAt (eqU x) pl.isList (λw hw=>ztj rx fx r fs w (by simpa using hw)) ⟨.bl _,H,I,rfl,?_⟩
  rw[show its.toArray.any (eqU x)=its.any (eqU x) by simp,zwv r fs]
  exact q
 ·obtain⟨its,r,pl,hz⟩:=I.tuple hq
  refine SeqAt.in_tupleAt (eqU x) pl (λw hw=>ztj rx fx r fs w (by simpa using hw)) ⟨.bl _,H,I,rfl,?_⟩
  rw[show its.toArray.any (eqU x)=its.any (eqU x) by simp,zwv r fs]
  exact q
theorem CallR.or{f:Value}{r r':List V->Hp->VK->Prop}(h:CallR X f r)(h':CallR X f r'):CallR X f (λxs H Q=>r xs H Q\/r' xs H Q):=by
 intro pins s σ H xs us Q I rs q
 rcases q with q | q
 ·exact h pins s σ H xs us Q I rs q
 ·exact h' pins s σ H xs us Q I rs q
theorem zu1:CallR X (.type "list") (λxs H Q=>∃ p ys,xs=[.ref p]/\(SqL X.K H p ys\/SqT X.K H p ys)/\∀ l,H l=none->Q (.ref l) (upd H l (.lst ys))):=by
 intro pins s σ H xs us Q I r h
 obtain⟨p,ys,rfl,hq,q⟩:=h
 obtain⟨u,rfl,rx⟩:=zwq r
 cases rx
 have fin:∀ (its:List Value),Vals ys its->ys.length<=sizeLine->∀ (h':Heap) (c':Nat),(∀ b o',s.heap.get? b=some o'->h'.get? b=some o') →
   h'.get? s.heap.objs.size=some { cls:=.type "list",dict:=none,data:=.seq its.toArray c',slots:= #[] }->EP X pins σ Q (.ref s.heap.objs.size) { s with heap:=h' }:=λits r' hz h' c' kp e =>
  ⟨.ref s.heap.objs.size,_,I.laid (t':=s.toks) kp (Nat.le_refl _) (show ObjOk X.prog X.w _ h' _ (.lst ys)from⟨hz,its,c',r',e⟩),rfl,q _ (I.hok.fresh (Nat.le_refl _))⟩
 rcases hq with hq | hq
 ·obtain⟨its,r',pl,hz⟩:=I.list hq
  have hlen:=r'.length
  obtain⟨o,ho,hc,n,hd⟩:=pl.isList
  exact call_list_seq p (.inl rfl) ho hc hd (λh' c' kp e=>fin its r' hz h' c' kp e) (by simp only[List.size_toArray]<;>omega)
 ·obtain⟨its,r',pl,hz⟩:=I.tuple hq
  have hlen:=r'.length
  obtain⟨o,ho,hc,n,hd⟩:=pl
  exact call_list_seq p (.inr rfl) ho hc hd (λh' c' kp e=>fin its r' hz h' c' kp e) (by simp only[List.size_toArray]<;>omega)
theorem ztk:CallR X (.type "tuple") (λxs H Q=>∃ p ys,xs=[.ref p]/\((SqL X.K H p ys/\∀ l,H l=none->Q (.ref l) (upd H l (.tup ys)))\/(SqT X.K H p ys/\Q (.ref p) H))):=by
 intro pins s σ H xs us Q I r h
 obtain⟨p,ys,rfl,h⟩:=h
 obtain⟨u,rfl,rx⟩:=zwq r
 cases rx
 rcases h with⟨hq,q⟩ | ⟨hq,q⟩
 ·obtain⟨its,r',pl,hz⟩:=I.list hq
  have hlen:=r'.length
  refine call_tuple_list pl.isList (λh' kp=> ?_) (by simp only[List.size_toArray]<;>omega)
  have I1:Inv X pins σ H { s with heap:=h' }:=I.kept (t':=s.toks) kp
  have I2:Inv X pins σ (upd H h'.objs.size (.tup ys)) { s with heap:=h'.push { cls:=.type "tuple",data:=.seq its.toArray } } :=
   I1.laid (t':=s.toks) (λb o e=>Heap.get?_push_of_some _ e) (Nat.le_refl _) (show ObjOk X.prog X.w _ _ _ (.tup ys)from⟨hz,its,r',IsTup.new _ _⟩)
  exact⟨.ref h'.objs.size,_,I2,rfl,q _ (I1.hok.fresh (Nat.le_refl _))⟩
 ·obtain⟨its,r',pl,hz⟩:=I.tuple hq
  exact call_tuple_same pl ⟨.ref p,H,I,rfl,q⟩
def tyV(K:PySem.W.Frag)(T:String)(x:V)(H:Hp):Prop:=match x with
 | .str _=>T="str"
 | .int _=>T="int"
 | .ref p=>(T="list"/\∃ xs,SqL K H p xs)\/(T="tuple"/\∃ o,K.lookup p=some o/\o.cls=.type "tuple"/\o.dict=none) ∨
   (T="dict"/\((∃ kvs,H p=some (.dK kvs))\/∃ kvs,H p=some (.dT kvs)))\/(T="set"/\∃ S n,H p=some (.set S n))
 | _=>False
theorem zagn {pins:List (Addr × Obj)} {σ:St} {H:Hp} {s:Shared} {T:String} {x:V} {v:Value} (I:Inv X pins σ H s) (r:RelV x v) (ty:tyV X.K T x H) :
    s.TypeIs v T/\∀ a,v=.ref a->∃ ob,s.heap.get? a=some ob/\ob.dict=none:=by
  cases x with
  | str z =>
    obtain⟨t,rfl⟩:=r
    cases (show T="str" from ty)
    exact⟨typeIs_str s z t,λ_ e=>nomatch e⟩
  | int i =>
    obtain⟨t,rfl⟩:=r
    cases (show T="int" from ty)
    exact⟨typeIs_int s i t,λ_ e=>nomatch e⟩
  | ref p =>
    cases r
    rcases ty with⟨rfl,xs,hq⟩ | ⟨rfl,o,hk,hc,hd⟩ | ⟨rfl,hk⟩ | ⟨rfl,S,n,hk⟩
    · obtain⟨its,_,pl,_⟩:=I.list hq
      refine⟨pl.isList.typeIs,λa e=> ?_⟩
      cases e
      obtain⟨o,n,e,c,hd,_⟩:=pl
      exact⟨o,e,hd⟩
    · refine⟨⟨o,I.kIn p o hk,hc⟩,λa e=> ?_⟩
      cases e
      exact⟨o,I.kIn _ o hk,hd⟩
    · have z:∃ o,s.heap.get? p=some o/\o.ExactDict:=by
        rcases hk with⟨kvs,hk⟩ | ⟨kvs,hk⟩
        · obtain⟨_,_,_,_,o,_,_,e,ex,_⟩:=I.hok p _ hk
          exact⟨o,e,ex⟩
        · obtain⟨_,_,_,_,o,_,_,e,ex,_⟩:=I.hok p _ hk
          exact⟨o,e,ex⟩
      obtain⟨o,e,ex⟩:=z
      refine⟨⟨o,e,ex.1⟩,λa e2=> ?_⟩
      cases e2
      exact⟨o,e,ex.2.1⟩
    · obtain⟨o,_,_,_,e,ex,_⟩:=I.hok p _ hk
      refine⟨⟨o,e,ex.1⟩,λa e2=> ?_⟩
      cases e2
      exact⟨o,e,ex.2.1⟩
  | _=>exact False.elim ty
def tBM0(K:PySem.W.Frag)(T:String)(r:V->List V->Hp->VK->Prop)(to:TE):TE:=λσ H Q=>to σ H λx H1=>tyV K T x H1/\r x [] H1 Q
def tBM(K:PySem.W.Frag)(T:String)(r:V->List V->Hp->VK->Prop)(to:TE)(t:TA):TE:=λσ H Q=>to σ H λx H1=>tyV K T x H1/\t σ H1 λxs H2=>r x xs H2 Q
variable{o e:Expr}{es:List Expr}{to:TE}{t:TA}{name:Str}{apos cpos:Pos}{T id:String}{r:V->List V->Hp->VK->Prop}
theorem zaab(pa:PlainAttrs T)(slot:Slot T name id)(hty:typeOf (.builtin id)=pure (.type "method_descriptor"))(hm:MtR X id r)(ho:PE X o to)(ha:PA X (e::es) t)
  (hbase:attributeBase o name X.env (eval o X.env)=eval o X.env:=by rfl)
  (hfew:((backTo cpos (starEach (e::es) X.env)).all (λx=> !x.1) && (backToKw cpos (keywordEach [] X.env)).all (λx=>x.1.isSome)
   && decide ((e::es).length+([]:List Keyword).length+(if([]:List Keyword).isEmpty then 0 else 1)<30))=true:=by rfl)
  (hline:(apos.endLine == cpos.line)=true:=by rfl) (hs:starEach (e::es) X.env=(false,eval e X.env)::starEach es X.env:=by rfl) (hplain:(backTo cpos (starEach es X.env)).any (·.1)=false:=by rfl) :
  PE X (.Call (.Attribute o name apos) (e::es) [] cpos) (tBM X.K T r to t):=by
 intro pins s σ H Q I h
 refine wpAny_Call_method_late hbase hfew hline rfl (thn (ho pins s σ H _ I h) λv s1 ⟨x,H1,I1,r1,ty,q1⟩=> ?_)
 obtain⟨h1,h2⟩:=zagn I1 r1 ty
 refine⟨T,id,pa,slot,hty,h1,h2,?_⟩
 have hA:=ha cpos pins s1 σ H1 _ I1 q1
 rw[hs]at hA ⊢
 refine Calls.callWith_builtin (by show(false || (backTo cpos (starEach es X.env)).any (·.1))=false;rw[hplain]<;>rfl) (Calls.evalArgs_plain ?_)
 exact thn hA λus s2 ⟨vs,H2,I2,r2,q2⟩=>hm pins s2 σ H2 x vs v us Q I2 r1 r2 q2
/- xs.append(e),list.index on a module's tuple .. are MtR facts of 06m -/
end
end L2
namespace L2
open PySem PySem.Spec PyProof.Rows
def MtM (X:Cx) (id:String) (r:V->List V->Hp->VK->Prop):Prop :=
  ∀ (pins:List (Addr × Obj)) (s:Shared) (σ:St) (H:Hp) (x:V) (xs:List V) (v:Value) (us:List Value) (Q:VK),Inv X pins σ H s->RelV x v->Vals xs us->r x xs H Q →
    wpAny (model X.prog X.w) X.A (call (.builtin id) (v::us)) (EP X pins σ Q) X.xe s
theorem Vals.one:∀ {x:V} {us:List Value},Vals [x] us->∃ u,us=[u]/\RelV x u
 | _,_,.cons r .nil=>⟨_,rfl,r⟩
theorem Vals.two:∀ {x y:V} {us:List Value},Vals [x,y] us->∃ u v,us=[u,v]/\RelV x u/\RelV y v
 | _,_,_,.cons r (.cons q .nil)=>⟨_,_,rfl,r,q⟩
theorem Vals.zero:∀ {us:List Value},Vals [] us->us=[]
 | _,.nil=>rfl
theorem Vals.eraseIdx:∀ {xs:List V} {us:List Value} (i:Nat),Vals xs us->Vals (xs.eraseIdx i) (us.eraseIdx i)
 | _,_,_,.nil=>.nil
 | _,_,0,.cons _ t=>t
 | _,_,i+1,.cons r t=>.cons r (Vals.eraseIdx i t)
theorem Vals.reverse{xs:List V}{us:List Value}(h:Vals xs us):Vals xs.reverse us.reverse:=by
 induction h with
 | nil=>exact .nil
 | cons r t ih=>rw[List.reverse_cons,List.reverse_cons];exact Vals.append ih (.cons r .nil)
theorem Vals.rep{xs:List V}{us:List Value}(h:Vals xs us):∀ k:Nat,Vals (List.replicate k xs).flatten (List.replicate k us).flatten
  | 0=>.nil
  | k+1=>by
    rw[List.replicate_succ,List.replicate_succ,List.flatten_cons,List.flatten_cons]
    exact Vals.append h (Vals.rep h k)
theorem zlt(its:List Value):∀ (k:Nat) (acc:List Value),
    List.foldl (λx1 x2=>x1++x2) acc.toArray (List.replicate k its.toArray)=(acc++(List.replicate k its).flatten).toArray
  | 0,acc=>by simp
  | k + 1,acc=>by
    have e:acc.toArray++its.toArray=(acc++its).toArray:=by simp
    have e2:(acc++its)++(List.replicate k its).flatten=acc++(List.replicate (k+1) its).flatten:=by
      rw[List.replicate_succ,List.flatten_cons,List.append_assoc]
    rw[<-e2,<-zlt its k (acc++its),<-e,List.replicate_succ,List.foldl_cons]
section
variable{X:Cx}{pins:List (Addr × Obj)}{σ:St}{H:Hp}{s:Shared}{l b:Addr}{xs ys zs:List V}
theorem Inv.lset{its its':List Value}{n:Nat}{f:Array Value->Array Value}{t':Nat}(I:Inv X pins σ H s)(hH:H l=some (.lst xs))
  (e:s.heap.get? l=some { cls:=.type "list",data:=.seq its.toArray n }) (hf:f its.toArray=its'.toArray) (hv:Vals ys its') (hz:ys.length<=sizeLine) :
  Inv X pins σ (upd H l (.lst ys)) { s with heap:=s.heap.update l (Obj.mapSeq f),toks:=t' }:=by
 have q:=PySem.IsL.update e f
 rw[hf]at q
 refine I.write (x:=l) (e:=l) (by rw[hH];exact trivial) (.inl rfl) (λb' u hb hu=>(Heap.get?_update_other s.heap (Obj.mapSeq f) (Ne.symm hb)).trans hu) ⟨_,q⟩ ?_
 exact⟨hz,its',_,hv,q⟩
theorem Inv.lnew{its:List Value}{t':Nat}(I:Inv X pins σ H s)(hv:Vals ys its)(hz:ys.length<=sizeLine) :
  Inv X pins σ (upd H s.heap.objs.size (.lst ys)) { s with heap:=s.heap.push { cls:=.type "list",data:=.seq its.toArray },toks:=t' } :=
 I.laid (λ_ _ q=>Heap.get?_push_of_some _ q) (Nat.le_refl _) ⟨hz,its,0,hv,Heap.get?_push_size _ rfl⟩
theorem Inv.fresh(I:Inv X pins σ H s):H s.heap.objs.size=none:=I.hok.fresh (Nat.le_refl _)
theorem Inv.lstM(I:Inv X pins σ H s)(hH:H l=some (.lst xs)):xs.length<=sizeLine/\∃ (its:List Value) (n:Nat),Vals xs its/\xs.length=its.length/\s.heap.get? l=some { cls:=.type "list",data:=.seq its.toArray n }:=by
 obtain⟨z,its,n,r,e⟩:=I.hok l _ hH
 exact⟨z,its,n,r,r.length,e⟩
theorem zab3{n:Nat}(h:n<=sizeLine):Builtin.List.listTooLong n=false:=by
 unfold Builtin.List.listTooLong
 exact decide_eq_false (by omega)
end
section
variable{X:Cx}
def zaac:V->List V->Hp->VK->Prop:=λx vs H Q=>∃ l xs y,x=.ref l/\vs=[y]/\H l=some (.lst xs)/\xs.length<sizeLine/\Q .non (upd H l (.lst (xs++[y])))
theorem zi8:MtM X "list.append" zaac:=by
 intro pins s σ H x vs v us Q I rx rv h
 obtain⟨l,xs,y,rfl,rfl,hH,hz,q⟩:=h
 cases rx
 obtain⟨u,rfl,ru⟩:=rv.one
 obtain⟨z,its,n,r,hl,e⟩:=I.lstM hH
 refine call_meets F.slot_list_append ⟨_,e,rfl⟩ F.entry_list_append (F.args_list_append_2 _ _) (PySem.list_append l its.toArray n u (by rw[List.size_toArray];omega)) ⟨e,?_⟩
 refine⟨.non,_,I.lset (its':=its++[u]) hH e (by simp) (r.append (.cons ru .nil)) ?_,rfl,q⟩
 rw[List.length_append,List.length_singleton]
 omega
def rCat:R2:=λx y H Q=>∃ l b xs zs,x=.ref l/\y=.ref b/\H l=some (.lst xs)/\H b=some (.lst zs)/\xs.length+zs.length<=sizeLine/\∀ p,H p=none->Q (.ref p) (upd H p (.lst (xs++zs)))
theorem zago:OpR X (binaryOp .Add) rCat:=by
 intro pins s σ H x y v u Q I rx ry h
 obtain⟨l,b,xs,zs,rfl,rfl,hH,hB,hz,q⟩:=h
 cases rx
 cases ry
 obtain⟨z,its,n,r,hl,e⟩:=I.lstM hH
 obtain⟨z2,its2,n2,r2,hl2,e2⟩:=I.lstM hB
 refine PySem.P.add_list e e2 ?_ (by rw[List.size_toArray,List.size_toArray];omega)
 have ea:its.toArray++its2.toArray=(its++its2).toArray:=by simp
 rw[ea]
 exact⟨.ref _,_,I.lnew (t':=s.toks) (r.append r2) (by rw[List.length_append];omega),rfl,q _ I.fresh⟩
def rRep:R2:=λx y H Q=>∃ l k xs,x=.ref l/\y=.int k/\H l=some (.lst xs)/\ -(2 ^ 63)<=k/\k<2 ^ 63/\xs.length * k.toNat<=sizeLine ∧
 ∀ p,H p=none->Q (.ref p) (upd H p (.lst (List.replicate k.toNat xs).flatten))
theorem zaad{α :Type}(xs:List α)(k:Nat):(List.replicate k xs).flatten.length=k * xs.length:=by
 induction k with
 | zero=>simp
 | succ k ih=>rw[List.replicate_succ,List.flatten_cons,List.length_append,ih,Nat.succ_mul,Nat.add_comm]
theorem zagp:OpR X (binaryOp .Mult) rRep:=by
 intro pins s σ H x y v u Q I rx ry h
 obtain⟨l,k,xs,rfl,rfl,hH,h1,h2,hz,q⟩:=h
 cases rx
 obtain⟨t,rfl⟩:=ry
 obtain⟨z,its,n,r,hl,e⟩:=I.lstM hH
 have hlen:its.toArray.size * k.toNat<=sizeLine:=by rw[List.size_toArray,<-hl];exact hz
 have hcap:¬ its.toArray.size * k.toNat >(2 ^ 63 - 1) / 8:=by
  have:(sizeLine:Nat)<=(2 ^ 63 - 1) / 8:=by decide
  omega
 have hfit:¬ (!Builtin.List.listFitsIndex k)=true:=by
  rw[fitsIndex_both h1 h2]
  exact Bool.false_ne_true
 have hlong:¬ Builtin.List.listTooLong (its.toArray.size * k.toNat)=true:=by
  rw[zab3 hlen]
  exact Bool.false_ne_true
 have hnew:List.foldl (λx1 x2=>x1++x2) #[] (List.replicate (if its.toArray.isEmpty=true then 0 else k.toNat) its.toArray)=(List.replicate k.toNat its).flatten.toArray:=by
  have f0:∀ m:Nat,List.foldl (λx1 x2=>x1++x2) #[] (List.replicate m its.toArray)=(List.replicate m its).flatten.toArray:=λm=>by
   have:=zlt its m []
   rw[List.nil_append]at this
   exact this
  rw[f0]
  cases its with
  | nil=>simp
  | cons a r'=>rw[if_neg (by simp)]
 refine wpAny_binaryOp_repeat_ref (T:="list") (U:="int") (by decide) ⟨_,e,rfl⟩ (λs'=>typeIs_int s' k t) noFill_list_mul F.fills_int_mul F.slot_int_rmul repeat_list F.slot_int_index.lookup
  (call_meets F.slot_int_rmul (typeIs_int s k t) F.entry_int_rmul (F.args_int_rmul_2 _ _) (int___rmul___int_list k t l its.toArray n)
   ⟨e,rfl,⟨_,e,rfl⟩,call_meets F.slot_list_mul ⟨_,e,rfl⟩ F.entry_list_mul (F.args_list_mul_2 _ _) (AutoListH.list___mul___list_int_3 l its.toArray n k t hfit hcap hlong) ⟨e,?_⟩⟩)
 rw[hnew]
 exact⟨.ref _,_,I.lnew (t':=s.toks) (r.rep k.toNat) (by rw[zaad,Nat.mul_comm];exact hz),rfl,q _ I.fresh⟩
end
section
variable{prog:Program}{w:World}{A:Around}{E:Value->Shared->Prop}{s:Shared}
set_option maxRecDepth 100000 in
end
section
variable{X:Cx}
end
end L2
namespace L2
open PySem PySem.Spec PyProof.Rows
section
variable{κ :Type}[DecidableEq κ]
def valV(kvs:List (κ × V))(k: κ):Option V:=(kvs.find? λkv=>decide (kv.1=k)).map (·.2)
def putK(kvs:List (κ × V))(k: κ)(v:V):List (κ × V) :=
 if(kvs.any λkv=>decide (kv.1=k))=true then kvs.map (λkv=>if kv.1=k then(kv.1,v)else kv)else kvs++[(k,v)]
def zagq(kvs:List (κ × V))(k: κ):List (κ × V):=kvs.filter λkv=>decide (kv.1≠k)
theorem zf1{p: κ × V}{r:List (κ × V)}{k: κ}(e:p.1=k):valV (p::r) k=some p.2:=by simp[valV,List.find?_cons,e]
theorem zf2{p: κ × V}{r:List (κ × V)}{k: κ}(e:¬ p.1=k):valV (p::r) k=valV r k:=by simp[valV,List.find?_cons,e]
theorem zju(k: κ):∀ kvs:List (κ × V),(kvs.any λkv=>decide (kv.1=k))=(valV kvs k).isSome
  | []=>rfl
  | p::r=>by
    rw[List.any_cons]
    by_cases e:p.1=k
    ·simp only[zf1 e,decide_eq_true e,Bool.true_or,Option.isSome_some]
    ·rw[zf2 e,decide_eq_false e,Bool.false_or];exact zju k r
theorem zx4(k j: κ)(y:V):∀ kvs:List (κ × V),valV (kvs.map λkv=>if kv.1=k then(kv.1,y)else kv) j=(valV kvs j).map λx=>if j=k then y else x
  | []=>rfl
  | p :: r=>by
    have ih:=zx4 k j y r
    rw[List.map_cons]
    by_cases h:p.1=k
    · rw[if_pos h]
      by_cases e:p.1=j
      ·rw[zf1 (p:=(p.1,y)) e,zf1 e,Option.map_some,if_pos (e.symm.trans h)]
      ·rw[zf2 (p:=(p.1,y)) e,zf2 e,ih]
    · rw[if_neg h]
      by_cases e:p.1=j
      ·rw[zf1 (p:=p) e,zf1 e,Option.map_some,if_neg (λz=>h (e.trans z))]
      ·rw[zf2 (p:=p) e,zf2 e,ih]
theorem zu2(k j: κ)(y:V):∀ kvs:List (κ × V),valV kvs k=none->valV (kvs++[(k,y)]) j=if j=k then some y else valV kvs j
  | [],_=>by
    by_cases e:k=j
    ·rw[if_pos e.symm];exact zf1 (p:=(k,y)) e
    ·rw[if_neg (λz=>e z.symm)];exact zf2 (p:=(k,y)) e
  | p::r,hn=>by
    rw[List.cons_append]
    have hk:¬ p.1=k:=λz=>by rw[zf1 z]at hn;cases hn
    rw[zf2 hk]at hn
    have ih:=zu2 k j y r hn
    by_cases e:p.1=j
    ·rw[zf1 e,zf1 e,if_neg (λz=>hk (e.trans z))]
    ·rw[zf2 e,zf2 e,ih]
theorem ze3(kvs:List (κ × V))(k j: κ)(y:V):valV (putK kvs k y) j=if j=k then some y else valV kvs j:=by
 unfold putK
 by_cases a:(kvs.any λkv=>decide (kv.1=k))=true
 ·rw[if_pos a,zx4]
  rw[zju]at a
  by_cases e:j=k
  ·obtain⟨x,hx⟩:=Option.isSome_iff_exists.mp a
   rw[if_pos e,e,hx,Option.map_some,if_pos rfl]
  ·rw[if_neg e]
   cases valV kvs j with
   | none=>rfl
   | some x=>rw[Option.map_some,if_neg e]
 ·rw[if_neg a]
  refine zu2 k j y kvs ?_
  rw[zju]at a
  cases q:valV kvs k with
  | none=>rfl
  | some x=>rw[q]at a;exact(a rfl).elim
theorem zdu(kvs:List (κ × V))(k: κ)(v:V):(putK kvs k v).length<=kvs.length+1:=by
 unfold putK
 split
 ·rw[List.length_map];omega
 ·rw[List.length_append,List.length_cons,List.length_nil];omega
theorem zx5{kvs:List (κ × V)}{k: κ}(v:V)(h:valV kvs k=none):putK kvs k v=kvs++[(k,v)]:=by
 unfold putK
 rw[zju,h]
 exact if_neg (by decide)
theorem RelO.isSome_eq{o:Option V}{u:Option Value}(r:RelO o u):o.isSome=u.isSome:=by
  cases o with
  | none=>cases u with
    | none=>rfl
    | some _=>exact(show False from r).elim
  | some _=>cases u with
    | none=>exact(show False from r).elim
    | some _=>rfl
theorem RelO.getD{o:Option V}{u:Option Value}{d:V}{d':Value}(r:RelO o u)(rd:RelV d d'):RelV (o.getD d) (u.getD d'):=by
  cases o with
  | none=>cases u with
    | none=>exact rd
    | some _=>exact(show False from r).elim
  | some _=>cases u with
    | none=>exact(show False from r).elim
    | some _=>exact r
theorem KV.val{kvs:List (κ × V)}{vs:List (κ × Value)}(r:KV kvs vs)(k: κ):RelO (valV kvs k) (valueAt vs k):=by
  unfold KV at r
  induction r with
  | nil=>exact True.intro
  | @cons p q ps qs h t ih =>
    obtain⟨h1,h2⟩:=h
    by_cases e:p.1=k
    · have e':q.1=k:=h1.symm.trans e
      have b:valueAt (q::qs) k=some q.2:=by simp[valueAt,List.find?_cons,e']
      rw[zf1 e,b];exact h2
    · have e':¬ q.1=k:=λz=>e (h1.trans z)
      have b:valueAt (q::qs) k=valueAt qs k:=by simp[valueAt,List.find?_cons,e']
      rw[zf2 e,b];exact ih
theorem KV.any{kvs:List (κ × V)}{vs:List (κ × Value)}(r:KV kvs vs)(k: κ):(kvs.any λkv=>decide (kv.1=k))=vs.any λkv=>decide (kv.1=k):=by
 unfold KV at r
 induction r with
 | nil=>rfl
 | cons h t ih=>rw[List.any_cons,List.any_cons,ih,h.1]
theorem KV.repl{kvs:List (κ × V)}{vs:List (κ × Value)}(r:KV kvs vs)(k: κ){y:V}{u:Value}(ry:RelV y u) :
    KV (kvs.map λkv=>if kv.1=k then(kv.1,y)else kv) (vs.map λkv=>if kv.1=k then(kv.1,u)else kv):=by
  unfold KV at r ⊢
  induction r with
  | nil=>exact .nil
  | @cons p q ps qs h t ih =>
    rw[List.map_cons,List.map_cons]
    refine .cons ?_ ih
    obtain⟨h1,h2⟩:=h
    by_cases e:p.1=k
    ·rw[if_pos e,if_pos (h1.symm.trans e)];exact⟨h1,ry⟩
    ·rw[if_neg e,if_neg (λz=>e (h1.trans z))];exact⟨h1,h2⟩
theorem KV.put{kvs:List (κ × V)}{vs:List (κ × Value)}(r:KV kvs vs)(k: κ){y:V}{u:Value}(ry:RelV y u):KV (putK kvs k y) (stored vs k u):=by
 unfold putK stored
 rw[r.any k]
 by_cases e:(vs.any λkv=>decide (kv.1=k))=true
 ·rw[if_pos e,if_pos e];exact r.repl k ry
 ·rw[if_neg e,if_neg e];exact Paired.snoc r ⟨rfl,ry⟩
theorem KV.drop{kvs:List (κ × V)}{vs:List (κ × Value)}(r:KV kvs vs)(k: κ):KV (zagq kvs k) (without vs k):=by
  unfold KV at r ⊢
  unfold zagq without
  induction r with
  | nil=>exact .nil
  | @cons p q ps qs h t ih =>
    obtain⟨h1,h2⟩:=h
    rw[List.filter_cons,List.filter_cons]
    by_cases e:p.1=k
    · have a:¬ decide (p.1≠k)=true:=by simp[e]
      have b:¬ decide (q.1≠k)=true:=by simp[h1.symm.trans e]
      rw[if_neg a,if_neg b];exact ih
    · have e':¬ q.1=k:=λz=>e (h1.trans z)
      have a:decide (p.1≠k)=true:=by simp[e]
      have b:decide (q.1≠k)=true:=by simp[e']
      rw[if_pos a,if_pos b];exact .cons ⟨h1,h2⟩ ih
theorem KV.keys{kvs:List (κ × V)}{vs:List (κ × Value)}(r:KV kvs vs):kvs.map (·.1)=vs.map (·.1):=by
 unfold KV at r
 induction r with
 | nil=>rfl
 | cons h t ih=>rw[List.map_cons,List.map_cons,ih,h.1]
theorem KV.length{kvs:List (κ × V)}{vs:List (κ × Value)}(r:KV kvs vs):kvs.length=vs.length:=Paired.length r
end
theorem zww{P:Program}{w:World}{k:Key}{u:Value}(r:RelV (kV k) u):(zdt P w).is k u=true:=by
 cases k with
 | inl i=>obtain⟨t,e⟩:=(show ∃ t,u=Value.int i t from r);subst e;exact zwl P w i t
 | inr x=>obtain⟨t,e⟩:=(show ∃ t,u=Value.str x t from r);subst e;exact zwm P w x t
theorem zu3{P:Program}{w:World}:∀ {ks:List Key} {us:List Value},Vals (ks.map kV) us->ItemsAre (zdt P w) ks us
  | [],_,r=>by rw[List.map_nil]at r;cases r;exact .nil
  | k::ks,_,r=>by
    rw[List.map_cons]at r
    cases r with
    | cons h t=>exact .cons (zww h) (zu3 t)
abbrev KT(H:Hp):List (List Key × V)->List (List Key × Addr × Value)->Prop:=Paired λp q=>p.1=q.1/\H q.2.1=some (.tup (p.1.map kV))/\RelV p.2 q.2.2
theorem KT.val{H:Hp}{kvs:List (List Key × V)}{xs:List (List Key × Addr × Value)}(r:KT H kvs xs)(k:List Key):RelO (valV kvs k) ((atKey xs k).map (·.2)):=by
  induction r with
  | nil=>exact True.intro
  | @cons p q ps qs h t ih =>
    obtain⟨h1,_,h2⟩:=h
    by_cases e:p.1=k
    · have e':q.1=k:=h1.symm.trans e
      have b:atKey (q::qs) k=some q.2:=by simp[atKey,List.find?_cons,e']
      rw[zf1 e,b];exact h2
    · have e':¬ q.1=k:=λz=>e (h1.trans z)
      have b:atKey (q::qs) k=atKey qs k:=by simp[atKey,List.find?_cons,e']
      rw[zf2 e,b];exact ih
theorem KT.repl{H:Hp}{kvs:List (List Key × V)}{xs:List (List Key × Addr × Value)}(r:KT H kvs xs)(k:List Key){y:V}{u:Value}(ry:RelV y u) :
    KT H (kvs.map λkv=>if kv.1=k then(kv.1,y)else kv) (xs.map (putAt k u)):=by
  induction r with
  | nil=>exact .nil
  | @cons p q ps qs h t ih =>
    rw[List.map_cons,List.map_cons]
    refine .cons ?_ ih
    obtain⟨h1,h2,h3⟩:=h
    unfold putAt
    by_cases e:p.1=k
    ·rw[if_pos e,if_pos (h1.symm.trans e)];exact⟨h1,h2,ry⟩
    ·rw[if_neg e,if_neg (λz=>e (h1.trans z))];exact⟨h1,h2,h3⟩
theorem KT.put{H:Hp}{kvs:List (List Key × V)}{xs:List (List Key × Addr × Value)}(r:KT H kvs xs)(k:List Key){b:Addr}{y:V}{u:Value}(hb:H b=some (.tup (k.map kV)))(ry:RelV y u) :
  KT H (putK kvs k y) (storedH xs k b u):=by
 have e:(kvs.any λkv=>decide (kv.1=k))=(atKey xs k).isSome:=by
  rw[zju,(r.val k).isSome_eq,Option.isSome_map]
 unfold putK storedH
 rw[e]
 by_cases q:(atKey xs k).isSome=true
 ·rw[if_pos q,if_pos q];exact r.repl k ry
 ·rw[if_neg q,if_neg q];exact Paired.snoc r ⟨rfl,hb,ry⟩
theorem KT.keeps{H H':Hp}{kvs:List (List Key × V)}{xs:List (List Key × Addr × Value)}(r:KT H kvs xs)(ht:∀ b ys,H b=some (.tup ys)->H' b=some (.tup ys)):KT H' kvs xs :=
 Paired.mapP r λ_ _ z=>⟨z.1,ht _ _ z.2.1,z.2.2⟩
section
variable{P:Program}{w:World}{H:Hp}{h:Heap}{a:Addr}
theorem zagr{u:HO}(ok:HOk P w H h)(e:Rd H a u):ObjOk P w H h a u:=e.ok ok
theorem zu4{kvs:List (Key × V)}(ok:HOk P w H h)(e:Rd H a (.dK kvs)):kvs.length<=sizeLine/\(a == sysModules)=false/\∃ vs,KV kvs vs/\h.DictOf (zdt P w) a vs :=
 show ObjOk P w H h a (.dK kvs)from zagr ok e
theorem zags{kvs:List (Key × V)}(ok:HOk P w H h)(e:H a=some (.dK kvs)):kvs.length<=sizeLine/\(a == sysModules)=false/\∃ vs,KV kvs vs/\h.DictOf (zdt P w) a vs:=zu4 ok (.inl e)
theorem zs1{ks:List Key}(ok:HOk P w H h)(e:H a=some (.tup (ks.map kV))):(tupleKind (zdt P w)).is h ks a:=by
 obtain⟨_,its,r,o,h1,h2,n,h3⟩:=(show ObjOk P w H h a (.tup (ks.map kV))from ok a _ e)
 exact⟨o,its.toArray,n,h1,h2,h3,by simpa using zu3 r⟩
theorem zwx {kvs:List (List Key × V)} (ok:HOk P w H h) (e:Rd H a (.dT kvs)):kvs.length<=sizeLine/\(a == sysModules)=false ∧
    ∃ xs,KT H kvs xs/\h.DictOfH (tupleKind (zdt P w)) a xs:=by
  obtain⟨z,y,xs,r,o,es,ep,h1,h2,h3,h4,h5⟩:=(show ObjOk P w H h a (.dT kvs)from zagr ok e)
  refine⟨z,y,xs,r,o,es,ep,h1,h2,h3,h4,λx hx=> ?_,h5⟩
  have all:∀ {l:List (List Key × V)} {m:List (List Key × Addr × Value)},KT H l m->∀ x∈m,(tupleKind (zdt P w)).is h x.1 x.2.1:=by
    intro l m q
    induction q with
    | nil=>intro x hx;exact nomatch hx
    | @cons p q ps qs hq t ih =>
      intro x hx
      rcases List.mem_cons.mp hx with e | hx
      · subst e
        exact zs1 ok (by rw[<-hq.1];exact hq.2.1)
      ·exact ih x hx
  exact all r x hx
theorem zaig{kvs:List (List Key × V)}(ok:HOk P w H h)(e:H a=some (.dT kvs)):kvs.length<=sizeLine/\(a == sysModules)=false ∧
  ∃ xs,KT H kvs xs/\h.DictOfH (tupleKind (zdt P w)) a xs:=zwx ok (.inl e)
end
def DGet(H:Hp)(a:Addr)(y:V)(r:Option V):Prop :=
 (∃ kvs k,Rd H a (.dK kvs)/\y=kV k/\r=valV kvs k)\/∃ kvs k b,Rd H a (.dT kvs)/\y=.ref b/\H b=some (.tup (k.map kV))/\r=valV kvs k
def DPut(H:Hp)(a:Addr)(y v:V)(H':Hp):Prop :=
 (∃ kvs k,H a=some (.dK kvs)/\y=kV k/\kvs.length<sizeLine/\H'=upd H a (.dK (putK kvs k v))) ∨
 ∃ kvs k b,H a=some (.dT kvs)/\y=.ref b/\H b=some (.tup (k.map kV))/\kvs.length<sizeLine/\H'=upd H a (.dT (putK kvs k v))
theorem DGet.k{H:Hp}{a:Addr}{kvs:List (Key × V)}{k:Key}(e:H a=some (.dK kvs)):DGet H a (kV k) (valV kvs k):=.inl ⟨kvs,k,.inl e,rfl,rfl⟩
theorem DGet.t{H:Hp}{a b:Addr}{kvs:List (List Key × V)}{k:List Key}(e:H a=some (.dT kvs))(eb:H b=some (.tup (k.map kV))):DGet H a (.ref b) (valV kvs k):=.inr ⟨kvs,k,b,.inl e,rfl,eb,rfl⟩
theorem DPut.k{H:Hp}{a:Addr}{kvs:List (Key × V)}{k:Key}{v:V}(e:H a=some (.dK kvs))(hl:kvs.length<sizeLine):DPut H a (kV k) v (upd H a (.dK (putK kvs k v))):=.inl ⟨kvs,k,e,rfl,hl,rfl⟩
theorem DPut.t{H:Hp}{a b:Addr}{kvs:List (List Key × V)}{k:List Key}{v:V}(e:H a=some (.dT kvs))(eb:H b=some (.tup (k.map kV)))(hl:kvs.length<sizeLine) :
  DPut H a (.ref b) v (upd H a (.dT (putK kvs k v))):=.inr ⟨kvs,k,b,e,rfl,eb,hl,rfl⟩
section
variable{X:Cx}{pins:List (Addr × Obj)}{σ:St}{H:Hp}{s:Shared}{a:Addr}{y v:V}{u r:Value}{o:Option V}{A:Around}{E:Value->Shared->Prop}
theorem Inv.big(I:Inv X pins σ H s):sysModules<s.heap.objs.size:=by
 have h:mainGlobals<s.heap.objs.size:=(I.mod.glob.keeps I.bk).lt
 exact Nat.lt_trans (by decide) h
theorem zaae{Q:Value->Shared->Prop}(hu:A.units+1<cLine)(I:Inv X pins σ H s)(g:DGet H a y (some v))(ry:RelV y u)(h:∀ w' s',Inv X pins σ H s'->RelV v w'->Q w' s') :
  wpAny (model X.prog X.w) A (getItem (.ref a) u) Q E s:=by
 rcases g with⟨kvs,k,e,ey,l⟩ | ⟨kvs,k,b,e,ey,eb,l⟩
 ·subst ey
  obtain⟨z,hd,vs,rel,dd⟩:=zu4 I.hok e
  obtain⟨w',hw,rw'⟩:=RelO.some_of (v:=v) (o:=valueAt vs k) (by rw[l];exact rel.val k)
  exact wpAny_getItem_of (zww ry) dd.mapOf hw (h w' _ (I.tok _) rw')
 ·subst ey
  cases (show u=Value.ref b from ry)
  obtain⟨z,hd,xs,rel,dd⟩:=zwx I.hok e
  obtain⟨w',hw,rw'⟩:=RelO.some_of (v:=v) (o:=(atKey xs k).map (·.2)) (by rw[l];exact rel.val k)
  obtain⟨p,hp,hp2⟩:=Option.map_eq_some_iff.mp hw
  refine wpAny_getItem_heap (tupleKind_room_in1 hu) (zs1 I.hok eb) dd hp ?_
  rw[hp2]
  exact h w' _ (I.tok _) rw'
theorem d_in{Q:Value->Shared->Prop}(hu:A.units+1<cLine)(I:Inv X pins σ H s)(g:DGet H a y o)(ry:RelV y u)(h:∀ s',Inv X pins σ H s'->Q (.bool o.isSome) s') :
  wpAny (model X.prog X.w) A (compareOp .In u (.ref a)) Q E s:=by
 rcases g with⟨kvs,k,e,ey,l⟩ | ⟨kvs,k,b,e,ey,eb,l⟩
 ·subst ey
  obtain⟨z,hd,vs,rel,dd⟩:=zu4 I.hok e
  refine wpAny_in_of (zww ry) hd dd.mapOf ?_
  rw[<-(rel.val k).isSome_eq,<-l]
  exact h _ (I.tok _)
 ·subst ey
  cases (show u=Value.ref b from ry)
  obtain⟨z,hd,xs,rel,dd⟩:=zwx I.hok e
  refine wpAny_in_heap (tupleKind_room_in1 hu) (zs1 I.hok eb) hd dd ?_
  have q:=(rel.val k).isSome_eq
  rw[Option.isSome_map]at q
  rw[<-q,<-l]
  exact h _ (I.tok _)
theorem zaea{Q:Value->Shared->Prop}(hu:A.units+1<cLine)(I:Inv X pins σ H s)(g:DGet H a y o)(ry:RelV y u)(h:∀ s',Inv X pins σ H s'->Q (.bool (!o.isSome)) s') :
  wpAny (model X.prog X.w) A (compareOp .NotIn u (.ref a)) Q E s:=by
 rcases g with⟨kvs,k,e,ey,l⟩ | ⟨kvs,k,b,e,ey,eb,l⟩
 ·subst ey
  obtain⟨z,hd,vs,rel,dd⟩:=zu4 I.hok e
  refine wpAny_notIn_of (zww ry) hd dd.mapOf ?_
  rw[<-(rel.val k).isSome_eq,<-l]
  exact h _ (I.tok _)
 ·subst ey
  cases (show u=Value.ref b from ry)
  obtain⟨z,hd,xs,rel,dd⟩:=zwx I.hok e
  refine wpAny_notIn_heap (tupleKind_room_in1 hu) (zs1 I.hok eb) hd dd ?_
  have q:=(rel.val k).isSome_eq
  rw[Option.isSome_map]at q
  rw[<-q,<-l]
  exact h _ (I.tok _)
theorem zwy{h':Heap}{t':Nat}{ob:HO}(I:Inv X pins σ H s)(mu:Mut (H a))(hs:Heap.SameBut a s.heap h')(he:∃ q,h'.get? a=some q)(new:ObjOk X.prog X.w (upd H a ob) h' a ob) :
  Inv X pins σ (upd H a ob) { s with heap:=h',toks:=t' } :=
 I.write (x:=a) (e:=a) mu (.inl rfl) (λb q hb z=>(hs.2 b hb).trans z) he new
theorem zaaf{P:Program}{w:World}{H':Hp}{h':Heap}{kvs:List (Key × V)}{vs:List (Key × Value)}(z:kvs.length<=sizeLine)(hd:(a == sysModules)=false)(rel:KV kvs vs)(dd:h'.DictOf (zdt P w) a vs) :
  ObjOk P w H' h' a (.dK kvs):=⟨z,hd,vs,rel,dd⟩
theorem zaag{H':Hp}{Q:Unit->Shared->Prop}(hu:A.units+1<cLine)(I:Inv X pins σ H s)(g:DPut H a y v H')(ry:RelV y u)(rv:RelV v r)(h:∀ s',Inv X pins σ H' s'->Q () s') :
  wpAny (model X.prog X.w) A (setItem (.ref a) u r) Q E s:=by
 rcases g with⟨kvs,k,e,ey,l,eH⟩ | ⟨kvs,k,b,e,ey,eb,l,eH⟩
 ·subst ey eH
  obtain⟨z,hd,vs,rel,dd⟩:=zags I.hok e
  have hz:vs.length<=sizeLine:=by rw[<-rel.length];exact z
  have hl:(putK kvs k v).length<=sizeLine:=by have:=zdu kvs k v;omega
  refine wpAny_setItem_pairs (hsz:=hz) (zww ry) dd λh' dd' hs=>h _ ?_
  have he:∃ q,h'.get? a=some q:=let ⟨q,_,_,hq,_⟩:=dd';⟨q,hq⟩
  exact zwy I (by rw[e];exact True.intro) hs he (zaaf hl hd (rel.put k rv) dd')
 ·subst ey eH
  cases (show u=Value.ref b from ry)
  obtain⟨z,hd,xs,rel,dd⟩:=zaig I.hok e
  have hz:xs.length<=sizeLine:=by rw[<-Paired.length rel];exact z
  have hl:(putK kvs k v).length<=sizeLine:=by have:=zdu kvs k v;omega
  refine wpAny_setItem_heap (hsz:=hz) (tupleKind_room_in1 hu) (zs1 I.hok eb) dd λh' dd' hs=>h _ ?_
  obtain⟨q,es,ep,hq,h2,h3,h4,_,h5⟩:=dd'
  refine zwy I (by rw[e];exact True.intro) hs ⟨q,hq⟩ ⟨hl,hd,_,(rel.put k eb rv).keeps λc ys ec=> ?_,q,es,ep,hq,h2,h3,h4,h5⟩
  rw[zag (zbe ec e (λz=>nomatch z))]
  exact ec
end
section
variable{X:Cx}{pins:List (Addr × Obj)}{σ:St}{H:Hp}{s:Shared}{a:Addr}{kvs:List (Key × V)}{k:Key}{u:Value}{A:Around}{E:Value->Shared->Prop}
end
def NoSl(i:Expr):Prop:=∀ ov iv,subscripted i false ov iv=operate [ov,iv] (getItem ov iv)
theorem zaeb{prog:Program}{w:World}{A:Around}{E:Value->Shared->Prop}{s:Shared}{env:Env}{value slice:Expr}{pos:Pos}{T id:String}{Q:Value->Shared->Prop}
  (hl:typeLookup (.type T) "__getitem__"=pure (some (.builtin id))) (hs:NoSl slice)
  (h:wpAny (model prog w) A (eval value env) (λo s₁=>wpAny (model prog w) A (eval slice env) (λi s₂=>s₂.TypeIs o T/\wpAny (model prog w) A (getItem o i) Q E s₂) E s₁) E s) :
  wpAny (model prog w) A (eval (.Subscript value slice pos) env) Q E s:=by
 refine Subscript_ (wpAny_mono h (λo s₁ h₁=>wpAny_mono h₁ (λi s₂ h₂=> ?_) λ_ _ x=>x) λ_ _ x=>x)
 obtain⟨hT,h₂⟩:=h₂
 unfold subscriptTail
 refine wpAny_bind ?_
 rw[getitemInPython_of_ne hT.not_modules]
 refine wpAny_bind (wpAny_specialOf hT hl ?_)
 have fin:wpAny (model prog w) A (subscripted slice false o i) (λr s₃=>wpAny (model prog w) A (letTemporaryGo value o r >>= λ_=>pure r) Q E s₃) E s₂:=by
  rw[hs o i]
  exact wpAny_operating (wpAny_mono h₂ (λr s₃ h₃=>wpAny_bind (wpAny_letTemporaryGo (wpAny_pure h₃))) λ_ _ x=>x)
 first
  | exact wpAny_pure (wpAny_bind fin)
  | exact wpAny_bind (wpAny_pure (wpAny_bind fin))
  | exact wpAny_bind fin
theorem zwz{X:Cx}{pins:List (Addr × Obj)}{σ:St}{H:Hp}{s:Shared}{a:Addr}{y:V}{o:Option V}(I:Inv X pins σ H s)(g:DGet H a y o):s.TypeIs (.ref a) "dict":=by
 rcases g with⟨kvs,k,e,_,_⟩ | ⟨kvs,k,b,e,_,_,_⟩
 ·obtain⟨_,_,vs,_,dd⟩:=zu4 I.hok e
  exact dd.typeIs
 ·obtain⟨_,_,xs,_,dd⟩:=zwx I.hok e
  exact dd.typeIs
def zhy(td ty:TE):TE:=λσ H Q=>td σ H λx H1=>ty σ H1 λy H2=>∃ a v,x=.ref a/\DGet H2 a y (some v)/\Q v H2
def tDIn(ty td:TE):TE:=λσ H Q=>ty σ H λy H1=>td σ H1 λx H2=>∃ a o,x=.ref a/\DGet H2 a y o/\Q (.bl o.isSome) H2
def zkg(ty td:TE):TE:=λσ H Q=>ty σ H λy H1=>td σ H1 λx H2=>∃ a o,x=.ref a/\DGet H2 a y o/\Q (.bl (!o.isSome)) H2
def ztl(td ty tv:TE):TS:=λD σ H=>tv σ H λv H1=>td σ H1 λx H2=>ty σ H2 λy H3=>∃ a H4,x=.ref a/\DPut H3 a y v H4/\D.nx σ H4
section
variable{X:Cx}{o i e value:Expr}{pos pos' tpos:Pos}{td ty tv:TE}
theorem zdv(hu:X.A.units+1<cLine)(ho:PE X o td)(hi:PE X i ty)(hs:NoSl i):PE X (.Subscript o i pos) (zhy td ty):=by
 intro pins s σ H Q I h
 refine zaeb PySem.F.slot_dict_getitem.lookup hs (thn (ho pins s σ H _ I h) λu s1 ⟨x,H1,I1,rx,q1⟩=>thn (hi pins s1 σ H1 _ I1 q1) λiv s2 ⟨y,H2,I2,ry,a,v,ex,g,q2⟩=> ?_)
 subst ex
 obtain rfl:u=Value.ref a:=rx
 exact⟨zwz I2 g,zaae hu I2 g ry λw' s3 I3 rw'=>⟨v,H2,I3,rw',q2⟩⟩
theorem zagt(hu:X.A.units+1<cLine)(hi:PE X i ty)(ho:PE X o td):PC X .In i o (tDIn ty td):=by
 intro pins s σ H Q I h
 refine thn (hi pins s σ H _ I h) λiv s1 ⟨y,H1,I1,ry,q1⟩=>thn (ho pins s1 σ H1 _ I1 q1) λu s2 ⟨x,H2,I2,rx,a,ov,ex,g,q2⟩=> ?_
 subst ex
 obtain rfl:u=Value.ref a:=rx
 exact d_in hu I2 g ry λs3 I3=>⟨.bl ov.isSome,H2,I3,rfl,q2⟩
theorem zi9(hu:X.A.units+1<cLine)(hi:PE X i ty)(ho:PE X o td):PC X .NotIn i o (zkg ty td):=by
 intro pins s σ H Q I h
 refine thn (hi pins s σ H _ I h) λiv s1 ⟨y,H1,I1,ry,q1⟩=>thn (ho pins s1 σ H1 _ I1 q1) λu s2 ⟨x,H2,I2,rx,a,ov,ex,g,q2⟩=> ?_
 subst ex
 obtain rfl:u=Value.ref a:=rx
 exact zaea hu I2 g ry λs3 I3=>⟨.bl (!ov.isSome),H2,I3,rfl,q2⟩
theorem zkh(hu:X.A.units+1<cLine)(ho:PE X o td)(hi:PE X i ty)(hv:PE X value tv)(hs:swapsWith value (some (.Subscript o i pos')) pos.line X.env=pure false) :
  PS X (.Assign [.Subscript o i pos'] value pos) (ztl td ty tv):=by
 intro pins s σ H D I h
 refine wpAny_Assign_Subscript (thn (hv pins s σ H _ I h) λr s1 ⟨v,H1,I1,rv,q1⟩=>thn (ho pins s1 σ H1 _ I1 q1) λu s2 ⟨x,H2,I2,rx,q2⟩=>thn (hi pins s2 σ H2 _ I2 q2) λiv s3 ⟨y,H3,I3,ry,a,H4,ex,g,q3⟩=> ?_) hs
 subst ex
 obtain rfl:u=Value.ref a:=rx
 exact zaag hu I3 g ry rv λs4 I4=>⟨σ,H4,I4,q3⟩
end
theorem zx6{P:Program}{w:World}{H:Hp}(h:Heap)(hb:sysModules<h.objs.size):ObjOk P w H (h.push { cls:=.type "dict",data:=.dict #[] }) h.objs.size (.dK []) :=
 ⟨Nat.zero_le _,beq_eq_false_iff_ne.mpr (Ne.symm (Nat.ne_of_lt hb)),[],.nil,Heap.DictOf.new h⟩
theorem zab4{P:Program}{w:World}{H:Hp}(h:Heap)(hb:sysModules<h.objs.size):ObjOk P w H (h.push { cls:=.type "dict",data:=.dict #[] }) h.objs.size (.dT []) :=
 ⟨Nat.zero_le _,beq_eq_false_iff_ne.mpr (Ne.symm (Nat.ne_of_lt hb)),[],.nil,_,#[],0,Heap.get?_push_size _ rfl,⟨rfl,rfl,rfl⟩,rfl,rfl,List.nodup_nil⟩
def zx7:TE:=λ_ H Q=>∀ p,H p=none->Q (.ref p) (upd H p (.dK []))
def zx8:TE:=λ_ H Q=>∀ p,H p=none->Q (.ref p) (upd H p (.dT []))
section
variable{X:Cx}{pos:Pos}
theorem zx9:PE X (.Dict [] [] pos) zx7:=λpins s σ H Q I h =>
 wpAny_Dict_empty ⟨.ref s.heap.objs.size,_,I.laid (a:=s.heap.objs.size) (o:=.dK []) (t':=s.toks) (λ_ _ q=>Heap.get?_push_of_some _ q) (Nat.le_refl _) (zx6 s.heap I.big),rfl,h _ (I.hok.fresh (Nat.le_refl _))⟩
theorem zya:PE X (.Dict [] [] pos) zx8:=λpins s σ H Q I h =>
 wpAny_Dict_empty ⟨.ref s.heap.objs.size,_,I.laid (a:=s.heap.objs.size) (o:=.dT []) (t':=s.toks) (λ_ _ q=>Heap.get?_push_of_some _ q) (Nat.le_refl _) (zab4 s.heap I.big),rfl,h _ (I.hok.fresh (Nat.le_refl _))⟩
end
def zqi:List (TE × TE)->St->Hp->(List (V × V)->Hp->Prop)->Prop
 | [],_,H,Q=>Q [] H
 | (tk,tv)::r,σ,H,Q=>tk σ H λx H1=>tv σ H1 λy H2=>zqi r σ H2 λps H3=>Q ((x,y)::ps) H3
abbrev VV:List (V × V)->List (Value × Value)->Prop:=Paired λp q=>RelV p.1 q.1/\RelV p.2 q.2
def PPs (X:Cx) (pos:Pos) (keys:List (Option Expr)) (values:List Expr) (trs:List (TE × TE)):Prop :=
  ∀ (pins:List (Addr × Obj)) (s:Shared) (σ:St) (H:Hp) (Q:List (V × V)->Hp->Prop),Inv X pins σ H s->zqi trs σ H Q →
    wpAny (model X.prog X.w) X.A (evalPairs (pairTrees keys values X.env pos)) (λvs s'=>∃ ps H',Inv X pins σ H' s'/\VV ps vs/\Q ps H') X.xe s
theorem zaec{X:Cx}{pos:Pos}:PPs X pos [] [] []:=λpins s σ H Q I h=>pairTrees_nil_walk ⟨[],H,I,.nil,h⟩
theorem zp7{X:Cx}{pos:Pos}{k v:Expr}{ks:List (Option Expr)}{vs:List Expr}{tk tv:TE}{trs:List (TE × TE)}(hk:PE X k tk)(hv:PE X v tv)(hr:PPs X pos ks vs trs) :
  PPs X pos (some k::ks) (v::vs) ((tk,tv)::trs):=λpins s σ H Q I h =>
 pairTrees_cons_walk (thn (hk pins s σ H _ I h) λu s1 ⟨x,H1,I1,rx,q1⟩=>thn (hv pins s1 σ H1 _ I1 q1) λw2 s2 ⟨y,H2,I2,ry,q2⟩ =>
  thn (hr pins s2 σ H2 _ I2 q2) λws s3 ⟨ps,H3,I3,rel,q3⟩=>⟨(x,y)::ps,H3,I3,.cons ⟨rx,ry⟩ rel,q3⟩)
def zh4(kvs more:List (Key × V)):List (Key × V):=more.foldl (λacc kv=>putK acc kv.1 kv.2) kvs
theorem KV.merge:∀ {more:List (Key × V)} {rs:List (Key × Value)} {kvs:List (Key × V)} {vs:List (Key × Value)},KV more rs->KV kvs vs->KV (zh4 kvs more) (merged vs rs):=by
  intro more rs kvs vs r
  unfold KV at r
  induction r generalizing kvs vs with
  | nil=>intro q;exact q
  | @cons p q ps qs h t ih =>
    intro r0
    have e:KV (putK kvs p.1 p.2) (stored vs q.1 q.2):=by
      have:=r0.put p.1 h.2
      rw[<-h.1];exact this
    exact ih e
theorem zid:∀ (more kvs:List (Key × V)),(zh4 kvs more).length<=kvs.length+more.length
  | [],kvs=>by show kvs.length<=kvs.length+0;omega
  | p::r,kvs=>by
    have h1:=zid r (putK kvs p.1 p.2)
    have h2:=zdu kvs p.1 p.2
    show(zh4 (putK kvs p.1 p.2) r).length<=_
    rw[List.length_cons];omega
theorem zs2{P:Program}{w:World}:∀ {kvs:List (Key × V)} {ws:List (Value × Value)},VV (kvs.map λkv=>(kV kv.1,kv.2)) ws->∃ rs,Carries (zdt P w) ws rs/\KV kvs rs
  | [],_,r=>by rw[List.map_nil]at r;cases r;exact⟨[],True.intro,.nil⟩
  | p :: kvs,_,r=>by
    rw[List.map_cons]at r
    cases r with
    | @cons a b as bs h t =>
      obtain⟨rs,c,q⟩:=zs2 (P:=P) (w:=w) t
      obtain⟨b1,b2⟩:=b
      exact⟨(p.1,b2)::rs,⟨zww h.1,rfl,c⟩,.cons ⟨rfl,h.2⟩ q⟩
def zaed(trs:List (TE × TE)):TE:=λσ H Q=>∀ p,H p=none->zqi trs σ (upd H p (.dK [])) λps H2=>H2 p=some (.dK [])/\∃ kvs:List (Key × V),ps=kvs.map (λkv=>(kV kv.1,kv.2))/\kvs.length<=15/\Q (.ref p) (upd H2 p (.dK (zh4 [] kvs)))
theorem zaee{X:Cx}{pos:Pos}{keys:List (Option Expr)}{values:List Expr}{trs:List (TE × TE)}(h:PPs X pos keys values trs)(hall:keys.all (·.isSome)=true)(hl:keys.length=values.length)(h0:keys≠[])
  (h15:keys.length<=15):PE X (.Dict keys values pos) (zaed trs):=by
 intro pins s σ H Q I q
 have hn:=I.hok.fresh (Nat.le_refl s.heap.objs.size)
 have I1:=I.laid (a:=s.heap.objs.size) (o:=.dK []) (h':=s.heap.push { cls:=.type "dict",data:=.dict #[] }) (t':=s.toks) (λ_ _ q=>Heap.get?_push_of_some _ q) (Nat.le_refl _) (zx6 s.heap I.big)
 refine wpAny_Dict_walk (knd:=zdt X.prog X.w) hall hl h0 h15 (thn (h pins _ σ _ _ I1 (q _ hn)) λws s2 ⟨ps,H2,I2,rel,e,kvs,ep,lk,q2⟩=> ?_)
 subst ep
 obtain⟨rs,c,rk⟩:=zs2 (P:=X.prog) (w:=X.w) rel
 obtain⟨z,hd,vs0,r0,dd⟩:=zags I2.hok e
 cases r0
 refine⟨rs,c,dd,λh' dd' hs=>⟨.ref s.heap.objs.size,_,?_,rfl,q2⟩⟩
 have hz:(zh4 [] kvs).length<=sizeLine:=by
  have h1:=zid kvs []
  rw[List.length_nil]at h1
  rw[sizeLine_eq];omega
 have he:∃ q,h'.get? s.heap.objs.size=some q:=let ⟨q,_,_,hq,_⟩:=dd';⟨q,hq⟩
 exact zwy I2 (by rw[e];exact True.intro) hs he (zaaf hz hd (rk.merge .nil) dd')
structure M1(X:Cx)(o:Expr)(m:Str)(apos:Pos)(e:Expr)(cpos:Pos):Prop where
 base:attributeBase o m X.env (eval o X.env)=eval o X.env
 few:((backTo cpos (starEach [e] X.env)).all (λx=> !x.1) && (backToKw cpos (keywordEach [] X.env)).all (λx=>x.1.isSome)
  && decide (([e]:List Expr).length+([]:List Keyword).length+(if([]:List Keyword).isEmpty then 0 else 1)<30))=true
 line:(apos.endLine == cpos.line)=true
 trees:backTo cpos (starEach [e] X.env)=[(false,eval e X.env)]
structure M2(X:Cx)(o:Expr)(m:Str)(apos:Pos)(e f:Expr)(cpos:Pos):Prop where
 base:attributeBase o m X.env (eval o X.env)=eval o X.env
 few:((backTo cpos (starEach [e,f] X.env)).all (λx=> !x.1) && (backToKw cpos (keywordEach [] X.env)).all (λx=>x.1.isSome)
  && decide (([e,f]:List Expr).length+([]:List Keyword).length+(if([]:List Keyword).isEmpty then 0 else 1)<30))=true
 line:(apos.endLine == cpos.line)=true
 trees:backTo cpos (starEach [e,f] X.env)=[(false,eval e X.env),(false,eval f X.env)]
def IsD(H:Hp)(a:Addr):Prop:=(∃ kvs,Rd H a (.dK kvs))\/∃ kvs,Rd H a (.dT kvs)
theorem zagu{X:Cx}{pins:List (Addr × Obj)}{σ:St}{H:Hp}{s:Shared}{a:Addr}(I:Inv X pins σ H s)(d:IsD H a) :
  s.TypeIs (.ref a) "dict"/\(∀ b,Value.ref a=.ref b->∃ ob,s.heap.get? b=some ob/\ob.dict=none)/\(a == sysModules)=false:=by
 rcases d with⟨kvs,e⟩ | ⟨kvs,e⟩
 ·obtain⟨_,hd,vs,_,dd⟩:=zu4 I.hok e
  refine⟨dd.typeIs,λb q=> ?_,hd⟩
  cases q
  obtain⟨ob,_,_,h1,h2,_⟩:=dd
  exact⟨ob,h1,h2.2.1⟩
 ·obtain⟨_,hd,xs,_,dd⟩:=zwx I.hok e
  refine⟨dd.typeIs,λb q=> ?_,hd⟩
  cases q
  obtain⟨ob,_,_,h1,h2,_⟩:=dd
  exact⟨ob,h1,h2.2.1⟩
section
variable{X:Cx}{pins:List (Addr × Obj)}{σ:St}{H:Hp}{s:Shared}{a:Addr}{y d:V}{u r:Value}{o:Option V}{A:Around}{E:Value->Shared->Prop}
theorem zagv{Q:Value->Shared->Prop}(hu:A.units+1<cLine)(I:Inv X pins σ H s)(g:DGet H a y o)(ry:RelV y u)(h:∀ w' s',Inv X pins σ H s'->RelV (o.getD .non) w'->Q w' s') :
  wpAny (model X.prog X.w) A (call (.builtin "dict.get") [.ref a,u]) Q E s:=by
 rcases g with⟨kvs,k,e,ey,l⟩ | ⟨kvs,k,b,e,ey,eb,l⟩
 ·subst ey
  obtain⟨z,hd,vs,rel,dd⟩:=zu4 I.hok e
  refine call_meetsIn PySem.F.slot_dict_get dd.typeIs PySem.F.entry_dict_get (PySem.F.args_dict_get_2 _ _) (meets_dict_get (zdt X.prog X.w) a (zww ry) hd) ⟨_,dd.mapOf,h _ _ (I.tok _) ?_⟩
  rw[l]
  exact(rel.val k).getD rfl
 ·subst ey
  cases (show u=Value.ref b from ry)
  obtain⟨z,hd,xs,rel,dd⟩:=zwx I.hok e
  refine call_meetsIn PySem.F.slot_dict_get dd.typeIs PySem.F.entry_dict_get (PySem.F.args_dict_get_2 _ _) (meetsH_dict_get (tupleKind (zdt X.prog X.w)) a b hd) ⟨tupleKind_room_in1 hu,k,xs,zs1 I.hok eb,dd,h _ _ (I.tok _) ?_⟩
  rw[l]
  exact(rel.val k).getD rfl
end
def zaah(td ty:TE):TE:=λσ H Q=>td σ H λx H1=>∃ a,x=.ref a/\IsD H1 a/\ty σ H1 λy H2=>∃ o,DGet H2 a y o/\Q (o.getD .non) H2
section
variable{X:Cx}{o e f:Expr}{apos cpos:Pos}{td ty tx:TE}
theorem zab5(hu:X.A.units+1<cLine)(ho:PE X o td)(he:PE X e ty)(m:M1 X o "get" apos e cpos):PE X (.Call (.Attribute o "get" apos) [e] [] cpos) (zaah td ty):=by
 intro pins s σ H Q I h
 refine wpAny_Call_method m.base m.few m.line PySem.F.plainAttrs_dict PySem.F.slot_dict_get PySem.F.type_dict_get (thn (ho pins s σ H _ I h) λu s1 ⟨x,H1,I1,rx,a,ex,d,q1⟩=> ?_)
 subst ex
 obtain rfl:u=Value.ref a:=rx
 obtain⟨t1,t2,_⟩:=zagu I1 d
 refine⟨t1,t2,?_⟩
 rw[m.trees]
 refine Calls.callWith_builtin rfl (Calls.evalArgs_plain (Calls.spliced_cons (thn (he pins s1 σ H1 _ I1 q1) λiv s2 ⟨y,H2,I2,ry,ov,g,q2⟩=>Calls.spliced_nil ?_)))
 exact zagv hu I2 g ry λw' s3 I3 rw'=>⟨_,H2,I3,rw',q2⟩
end
section
variable{X:Cx}{pins:List (Addr × Obj)}{σ:St}{H:Hp}{s:Shared}{a:Addr}{kvs:List (Key × V)}{A:Around}{E:Value->Shared->Prop}
theorem zab6{Q:Value->Shared->Prop}(I:Inv X pins σ H s)(e:Rd H a (.dK kvs))(h:∀ p s',H p=none->Inv X pins σ (upd H p (.dK kvs)) s'->Q (.ref p) s'):wpAny (model X.prog X.w) A (call (.type "dict") [.ref a]) Q E s:=by
 obtain⟨z,hd,vs,rel,dd⟩:=zu4 I.hok e
 refine kt_call_dict hd dd (by rw[<-rel.length];exact z) λh' dd' hs=> ?_
 refine h _ _ (I.hok.fresh (Nat.le_refl _)) (I.laid (a:=s.heap.objs.size) (o:=.dK kvs) (t':=s.toks) (λb q hq=> ?_) (Nat.le_refl _) (zaaf z (beq_eq_false_iff_ne.mpr (Ne.symm (Nat.ne_of_lt I.big))) rel dd'))
 exact(hs.2 b (Nat.ne_of_lt (Heap.lt_size hq))).trans (Heap.get?_push_of_some _ hq)
end
section
variable{X:Cx}{pins:List (Addr × Obj)}{σ:St}{H:Hp}{s:Shared}{a:Addr}{y:V}{u:Value}{A:Around}{E:Value->Shared->Prop}
end
end L2
namespace Att
open PySem PySem.W PySem.Calls PyProof.Rows
theorem zqj{P:Params}{h:Heap}:∀ (ns:List Int) (vs:List Value),WellAll P h vs (ns.map WData.int)->IntsAre vs ns:=by
  intro ns
  induction ns with
  | nil =>
    intro vs w
    rw[List.map_nil]at w
    cases w
    exact .nil
  | cons n ns ih =>
    intro vs w
    rw[List.map_cons]at w
    cases w with
    | cons a b =>
      cases a
      exact .cons _ _ (ih _ b)
theorem zaai{l:OpenLaw}{n:Nat}(hn:l.most=some n){P:Params}{h:Heap}{args:List WData}{vals:List Value}
    (hpre:l.row.toRowW.claim.pre args=true) (hwl:WellAll P h vals args) :
    ∃ a vs ns,vals=[Value.ref a]/\args=[WData.list (ns.map WData.int)]/\h.get? a=some { cls:=.type "list",data:=.seq vs.toArray }/\IntsAre vs ns/\ns.length<=n:=by
  have hsh:WShape.hasAll [] args [.list .int]=true:=(pre_splitW hpre).1
  have hc:l.pre.holds [] { args:=args }=true:=(pre_splitW hpre).2
  obtain⟨d,r,rfl,h1,h2⟩:=hasAllW_cons hsh
  obtain rfl:=hasAllW_nil h2
  obtain⟨xs,rfl,h3⟩:=hasW_list h1
  obtain⟨ns,rfl⟩:=items_int h3
  have hlen:ns.length<=n:=by
    unfold OpenLaw.pre at hc
    have h4:(WTm.not (.lt (.lit (.int (n:Int))) (.len (.arg 0)))).holds [] { args:=[.list (ns.map .int)] }=true:=by
      have h4:=(holds_andW hc).1
      rw[hn]at h4
      exact h4
    have h5:=condW_of h4 (w_not (w_lt w_lit (w_len_list (w_arg rfl))))
    rw[List.length_map]at h5
    refine Nat.le_of_not_lt λq=> ?_
    have q':(n:Int)<((ns.length:Nat):Int):=by omega
    first
      | (rw[decide_eq_true q']at h5;exact absurd h5 (by decide))
      | (simp at h5;omega)
  cases hwl with
  | cons w1 w2 =>
    cases w2
    cases w1 with
    | list ho hall=>exact⟨_,_,ns,rfl,rfl,ho,zqj ns _ hall,hlen⟩
theorem zaaj(l:OpenLaw)(args:List WData):l.row.toRowW.claim.post args (.bool true) args=true :=
 postW_of (r:=l.row.toRowW) (X:=(true == true))
  (show WShape.has [] (.bool true) .bool=true by first | rfl | decide | simp[WShape.has,WShape.arms,WShape.armsAll])
  (show(WTm.eq .res (.lit (.bool true))).value [] { args:=args,res:=some (.bool true),after:=args }=some (.bool (true == true))from w_eq_bool (w_res rfl) w_lit) rfl
theorem attach_call{l:OpenLaw}{n:Nat}{q:Program}{loose:List Str}{XP:(Str->Option Value)->Heap->Prop}{YP:World->Heap->Prop}{d:DefRec}
  (hn:l.most=some n) (hdf:d.params.defaults=[])
  (call:∀ (w:World) (s₀ s₁:Shared) (mg mb:Str->Option Value) (fa:Addr) (o:Obj) (pm cd doc:Value) (a:Addr) (vs:List Value) (ns:List Int),
   Ground q loose [] XP w s₀ mg mb s₁.heap->YP w s₁.heap →
   s₁.heap.get? fa=some o->o.data=.func (docDef d.name d.params d.body d.scope pm cd doc)->s₁.heap.CodeRec cd d.name->mg d.name=some (.ref fa) →
   s₁.heap.get? a=some { cls:=.type "list",data:=.seq vs.toArray }->IntsAre vs ns->ns.length<=n->s₁.gens= #[] →
   codeAny (model l.prog w) callerA (.call (.ref fa) ⟨[.ref a],[]⟩) (λr s'=>r=.ok (.ret (.bool true))/\OldK s₁.heap s'.heap/\s'.os=s₁.os/\AllBare s'.gens) s₁) :
  WalkO q loose XP YP l.row.toRowW d [] (λf vs=>PySem.call f vs):=by
 intro w s₀ s₁ mg mb G Y fa o pm cd doc dV kV ho hd hcd hD hmg hg args vals as hpre hlay hrd hwl hlo
 obtain rfl:dV=.none:=Dflts.none hD hdf
 obtain rfl:kV=.none:=Dflts.noKw hD
 obtain⟨a,vs,ns,rfl,rfl,hobj,hints,hlen⟩:=zaai hn hpre hwl
 refine enter_call (codeAny_mono (call w s₀ s₁ mg mb fa o pm cd doc a vs ns G Y ho (fd_plain hd) hcd hmg hobj hints hlen hg) λr s' hq=> ?_)
 obtain⟨rfl,h2,h3,h4⟩:=hq
 exact⟨.inl ⟨.bool true,.bool true,[],rfl,λ_=>rfl,.bool true,zaaj l _,λ_=>⟨List.Pairwise.nil,λ_ hm=>(nomatch hm)⟩⟩,h2,h3,h4⟩
section
variable{prog:Program}{w:World}{A:Around}{E:Value->Shared->Prop}{s:Shared}{K:Frag}
def zai5(h:Heap)(L d:Addr):List (Addr × Obj):=(List.range h.objs.size).filterMap λa=>if a=L\/a=d then none else(h.get? a).map λo=>(a,o)
end
end Att
namespace L2
open PySem PySem.Spec PyProof.Rows
theorem zqk:∀ {vs:List Value} {ns:List Int},IntsAre vs ns->Vals (ns.map V.int) vs
 | _,_,.nil=>.nil
 | _,_,.cons n t h=>.cons ⟨t,rfl⟩ (zqk h)
def Only(H:Hp):Prop:=∀ b,H b=none\/∃ o xs,H b=some (.frz o (.lst xs))
theorem zab7 {P:Program} {w:World} {K:PySem.W.Frag} {mg mb:Str->Option Value} {CX:CXT} {k:Nat} {fa a:Addr} {fd:FuncData} {x:Str} {sp:Sp} {s₁:Shared} {vs:List Value} {ns:List Int}
    (KX:K.In s₁.heap) (hns:s₁.heap.Ns mainGlobals mg) (hb:s₁.heap.Ns builtinsNs mb) (hbb:∀ x:Str,x≠"__name__"->mb x=bootBuiltins x) (hlim:s₁.heap.NoLimit) (hg:s₁.gens= #[])
    (ha:s₁.heap.get? a=some { cls:=.type "list",data:=.seq vs.toArray }) (hi:IntsAre vs ns) (hl:ns.length<=sizeLine) (hr:Room k callerA)
    (F:∀ base:Heap,K.In base->base.Ns mainGlobals mg->FnOk P w K mg base CX k fa fd [x] sp) (hbind:∀ (s:Shared) (u:Value),BindsTo s fd ⟨[u],[]⟩ [(x,u)])
    (hsp:∀ H:Hp,Only H->SqL K H a (ns.map V.int)->sp [.ref a] H (λv _=>v=.bl true) λ_ _ _=>False)
    (hCX:∀ H e s',CX [] H s₁ (λ_ _ _=>False) e s'->False) :
    codeAny (model P w) callerA (.call (.ref fa) ⟨[.ref a],[]⟩) (λr s'=>r=.ok (.ret (.bool true))/\OldK s₁.heap s'.heap/\s'.os=s₁.os/\AllBare s'.gens) s₁:=by
  have rv:=zqk hi
  have lenV:=hi.length
  have core : ∀ H:Hp,Only H->SqL K H a (ns.map V.int)->HOk P w H s₁.heap->(∀ b,H b≠none->b=a)->(H a≠none->K.lookup a=none) →
      codeAny (model P w) callerA (.call (.ref fa) ⟨[.ref a],[]⟩) (λr s'=>r=.ok (.ret (.bool true))/\OldK s₁.heap s'.heap/\s'.os=s₁.os/\AllBare s'.gens) s₁:=by
    intro H hO hS hok hA hK
    have base_of:∀ {b:Addr} {o:Obj},s₁.heap.get? b=some o->H b=none->(hidT s₁.heap H).get? b=some o:=λe n=>zabq e n
    have noA:∀ {b:Addr} {o:Obj} {es:Array DictEntry} {ep:Nat},s₁.heap.get? b=some o->o.data=.dict es ep->H b=none:=λ{b o es ep} e d=>by
      cases q:H b with
      | none=>rfl
      | some u =>
        have e':b=a:=hA b (by rw[q];simp)
        subst e'
        rw[ha]at e;cases e
        have d':Data.seq vs.toArray _=Data.dict es ep:=d
        cases d'
    have nsK:∀ {b:Addr} {m:Str->Option Value},s₁.heap.Ns b m->(hidT s₁.heap H).Ns b m:=λ{b m} ⟨o,es,ep,e,d,r⟩=>⟨o,es,ep,base_of e (noA e d),d,r⟩
    have hKb:K.In (hidT s₁.heap H):=λb o e=>base_of (KX b o e) (by
      cases q:H b with
      | none=>rfl
      | some u =>
        have e':b=a:=hA b (by rw[q];simp)
        subst e'
        rw[hK (by rw[q];simp)]at e;cases e)
    have hM:Mod K mg (hidT s₁.heap H):=⟨hKb,nsK hns,⟨mb,nsK hb,hbb⟩,let ⟨mc,h1,h2⟩:=hlim;⟨mc,nsK h1,h2⟩⟩
    have e0:Env0 P w K mg (hidT s₁.heap H) callerA [] s₁ H:=⟨rfl,hM,λb o e=>zadw e,Nat.le_of_eq (zzt _ _),trivial,λb hb=>absurd (show b∈([]:List Addr)from hb) (by simp),hok,.of_eq hg⟩
    refine codeAny_mono ((F _ hKb (nsK hns)).run callerA [] s₁ H ⟨[.ref a],[]⟩ [.ref a] [.ref a] _ _ hr e0 (hbind s₁ (.ref a)) (.cons rfl .nil) (hsp H hO hS)) λr s' h=> ?_
    cases r with
    | error e=>exact(hCX H e s' h).elim
    | ok fl =>
      cases fl with
      | next=>exact False.elim h
      | brk=>exact False.elim h
      | cont=>exact False.elim h
      | ret u =>
        obtain⟨v,H',os,bare,un,hok',r',q⟩:=h
        have q':v=.bl true:=q
        subst q'
        obtain rfl:u=Value.bool true:=r'
        refine⟨rfl,OldK.of_keep λb o e=> ?_,os,bare⟩
        cases q:H b with
        | none=>exact un.keep b o e q (by intro z;exact absurd (show b∈([]:List Addr)from z) (by simp)) (by simp)
        | some u =>
          rcases hO b with z | ⟨ob,xs,z⟩
          ·rw[q]at z;cases z
          · have z2:=un.frzs b ob _ z
            obtain⟨e1,_⟩:=hok b _ z
            obtain⟨e2,_⟩:=hok' b _ z2
            rw[e]at e1;cases e1
            exact e2
  cases hk:K.lookup a with
  | some o =>
    have e:=KX a o hk
    rw[ha]at e
    cases e
    refine core (λ_=>none) (λ_=>.inl rfl) (.inr ⟨_,vs.toArray,_,hk,rfl,rfl,rfl,by rw[List.size_toArray,lenV];exact hl,by simpa using rv⟩) (λb u z=>by have z':(none:Option HO)=some u:=z;cases z') (λb z=>absurd rfl z) λz=>absurd rfl z
  | none =>
    refine core (λb=>if b=a then some (.frz { cls:=.type "list",data:=.seq vs.toArray } (.lst (ns.map V.int)))else none) (λb=> ?_) (.inl (.inr ⟨{ cls:=.type "list",data:=.seq vs.toArray },if_pos rfl⟩)) (λb u z=> ?_) (λb z=> ?_) λ_=>hk
    · by_cases hb:b=a
      ·exact .inr ⟨_,_,if_pos hb⟩
      ·exact .inl (if_neg hb)
    · by_cases hb:b=a
      · have z':=(if_pos hb).symm.trans z
        cases z'
        subst hb
        exact⟨ha,by rw[List.length_map];exact hl,vs,_,rv,ha⟩
      · have z':=(if_neg hb).symm.trans z
        cases z'
    · by_cases hb:b=a
      ·exact hb
      ·exact absurd (if_neg hb) z
end L2
namespace L2
open PySem PySem.Spec PyProof.Rows
abbrev KOf{K:PySem.W.Frag}{h:Heap}(_:K.In h):PySem.W.Frag:=K
theorem walk_of {l:PySem.W.OpenLaw} {n k:Nat} {q:Program} {loose:List Str} {XP:(Str->Option Value)->Heap->Prop} {YP:World->Heap->Prop} {d:DefRec} {K:Params->PySem.W.Frag} {CX:World->CXT} {sp:World->Sp} {x:Str}
    (hn:l.most=some n) (hn2:n<=sizeLine) (hdf:d.params.defaults=[]) (hr:Room k callerA)
    (hY:∀ (w:World) (h:Heap),YP w h->(K w.params).In h)
    (F:∀ (w:World) (mg:Str->Option Value) (fa:Addr) (h:Heap),(K w.params).In h->h.Ns mainGlobals mg->mg d.name=some (.ref fa) →
      ∃ fd:FuncData,(∀ (s:Shared) (u:Value),BindsTo s fd ⟨[u],[]⟩ [(x,u)]) ∧
        ∀ base:Heap,(K w.params).In base->base.Ns mainGlobals mg->FnOk l.prog w (K w.params) mg base (CX w) k fa fd [x] (sp w))
    (hsp:∀ (w:World) (H:Hp) (a:Addr) (ns:List Int),ns.length<=n->Only H->SqL (K w.params) H a (ns.map V.int)->sp w [.ref a] H (λv _=>v=.bl true) λ_ _ _=>False)
    (hCX:∀ (w:World) (H:Hp) (s:Shared) (e:Value) (s':Shared),CX w [] H s (λ_ _ _=>False) e s'->False) :
    PySem.W.WalkO q loose XP YP l.row.toRowW d [] (λf vs=>PySem.call f vs):=by
  refine Att.attach_call hn hdf λw s₀ s₁ mg mb fa o pm cd doc a vs ns G Y ho hd hcd hmg hobj hints hlen hg=> ?_
  have KX:=hY w _ Y
  obtain⟨fd,hb,hF⟩:=F w mg fa _ KX G.T.g hmg
  exact zab7 KX G.T.g G.T.b G.T.builtins G.T.nolimit hg hobj hints (Nat.le_trans hlen hn2) hr hF hb (λH hO hS=>hsp w H a ns hlen hO hS) λH e s'=>hCX w H s₁ e s'
end L2
/- THE LAST THEOREM (shape;LID,My.* are yours):
   My.Adr: a structure of the addresses that your layer names (classes,functions);My.Txt K t: a structure (Prop) of the equations over K;
   My.txt_mk:{K} {implicit addresses ..} (e1:nsIn K mainGlobals "law"=some (some (.ref f))) (e2:K.lookup f=some ⟨oc,od,.func (fnOf "law" "law" params body scope dV kV doc pm an cdv ct),sl⟩) (e3:codeIn K cdv "law"=true) .. :∃ t,My.Txt K t
set_option maxRecDepth 100000 in
set_option maxHeartbeats 0 in
theorem PySem.Challenge.cw_LID_holds : PySem.Challenge.rw_LID.Holds := by
 w_on;o_law;k_head;(case hw=>w_witness2)
 k_fill
 refine L2.walk_of (l:=PySem.Challenge.rw_LID) (n:=63) (k:=40) (x:="script") (CX:=λw=>..) (sp:=λ_=>My.sp_law) rfl (by decide) rfl ⟨rfl,by decide,by decide⟩ (λw h Y=>PySem.W.kIn_of Y) ?F ?S ?C
 case F =>
  intro w mg fa h KX G hmg
  have T:∃ t,My.Txt (L2.KOf KX) t:=by
   dsimp only [L2.KOf]                          -- K must stand as «<heap const> w.params» for k_is
   refine' My.txt_mk ?e1 ?e2 ?e3 ..
   (case e1=>PySem.W.k_is)                    -- in the order: a name -> its address -> its object -> its parts
   (case e2=>PySem.W.k_is)
   ..
  obtain⟨t,T⟩:=T
  have e0:=hmg.symm.trans (PySem.W.mg_of KX G T.law)
  cases e0                                       -- fa is the law's own address
  exact⟨_,λs u=>.of_eq rfl,λbase kb nb=>My.law_fn T kb nb⟩     -- if «.of_eq rfl» comes too early: refine' ⟨_,?b,λbase kb nb=>My.law_fn T kb nb⟩;exact λs u=>.of_eq rfl
 case S=>exact λw H a ns hl hO hS=>..
 case C=>exact ..
(the tactic k_is has no namespace: write k_is) -/
namespace L2
open PySem PySem.Spec PyProof.Rows
def zbt(s:Stmt)(j:Nat):Stmt:=match s with
 | .ClassDef _ _ _ body _ _ _ _ _ _ _=>body.getD j (.Pass ⟨0,0,0,0⟩)
 | _=>.Pass ⟨0,0,0,0⟩
def zar(s:Stmt):Arguments:=match s with
 | .FunctionDef _ a _ _ _ _ _ _ _ _=>a
 | _=>{ posonlyargs:=[],args:=[],vararg:=none,kwonlyargs:=[],kw_defaults:=[],kwarg:=none,defaults:=[] }
def zap(s:Stmt):List Stmt:=match s with
 | .FunctionDef _ _ b _ _ _ _ _ _ _=>b
 | _=>[]
def zab(s:Stmt):Scope:=match s with
 | .FunctionDef _ _ _ _ _ _ sc _ _ _=>sc
 | _=>{ kind:=.function,names:=[],isGenerator:=false,isCoroutine:=false }
abbrev CX0:CXT:=λ_ _ _ _ _ _=>False
abbrev E0:XK:=λ_ _ _=>False
structure Fun(K:PySem.W.Frag)(x qual:Str)(st:Stmt)(f:Addr)(fd:FuncData):Prop where
 ex:∃ (oc:Value) (od:Option Addr) (kV doc pm:Value) (an:Option Addr) (cdv ct:Value) (osl:Array (Option Value)),
  fd=PySem.W.fnOf x qual (zar st) (zap st) (zab st) .none kV doc pm an cdv ct/\K.lookup f=some ⟨oc,od,.func fd,osl⟩/\PySem.W.codeIn K cdv qual=true
 kp:PySem.W.keepIn K (.ref f)=true
section
variable{P:Program}{w:World}{K:PySem.W.Frag}{mg:Str->Option Value}{base:Heap}
theorem Fun.ok{x qual:Str}{st:Stmt}{f:Addr}{fd:FuncData}{N ps:List Str}{k:Nat}{sp:Sp}(F:Fun K x qual st f fd)(S:zaq N ps (zab st))(len:∀ vs H Q E,sp vs H Q E->vs.length=ps.length)
  (hbody:∀ (cdv:Value) (A:Around) (outer:List Env) (s:Shared) (H:Hp) (vs:List V) (Q:VK) (E:XK),Room k (A.deeper (envOfC qual (zab st) s.heap.objs.size f cdv))->sp vs H Q E →
   ∃ t,PSs (cxOf CX0 P w K mg base N qual (zab st) f cdv A outer s H E).nox (zap st) t/\t { nx:=λ_ H'=>Q .non H',rt:=Q } (zbu N vs) H):FnOk P w K mg base CX0 (k+1) f fd ps sp:=by
 obtain⟨oc,od,kV,doc,pm,an,cdv,ct,osl,rfl,lk,hcd⟩:=F.ex
 refine zagg lk hcd S len λA outer s H vs Q E hr hsp=> ?_
 obtain⟨t,h,q⟩:=hbody cdv A outer s H vs Q E hr hsp
 exact⟨t,h.nox,q⟩
theorem Fun.binds{x qual:Str}{st:Stmt}{f:Addr}{fd:FuncData}{ps:List Str}(F:Fun K x qual st f fd)
  (h:∀ (kV doc pm:Value) (an:Option Addr) (cdv ct:Value) (us:List Value),us.length=ps.length->bindArgs (PySem.W.fnOf x qual (zar st) (zap st) (zab st) .none kV doc pm an cdv ct) ⟨us,[]⟩=pure (ps.zip us)):Binds K fd ps []:=by
 obtain⟨oc,od,kV,doc,pm,an,cdv,ct,osl,rfl,lk,hcd⟩:=F.ex
 exact .all (h kV doc pm an cdv ct)
theorem za9{x qual:Str}{st:Stmt}{f:Addr}{oc:Value}{od an:Option Addr}{osl:Array (Option Value)}{kV doc pm cdv ct:Value}(l:K.lookup f=some ⟨oc,od,.func (PySem.W.fnOf x qual (zar st) (zap st) (zab st) .none kV doc pm an cdv ct),osl⟩)
  (c:PySem.W.codeIn K cdv qual=true) (k:PySem.W.keepIn K (.ref f)=true):Fun K x qual st f (PySem.W.fnOf x qual (zar st) (zap st) (zab st) .none kV doc pm an cdv ct):=⟨⟨oc,od,kV,doc,pm,an,cdv,ct,osl,rfl,l,c⟩,k⟩
end
theorem ze8{A:Around}{k:Nat}(hr:Room k A):A.units+1<cLine:=Nat.lt_of_le_of_lt (Nat.add_le_add_left (by decide:1<=64) _) hr.units
section
variable{X:Cx}
end
theorem iteT{A B:Prop}(h:A):if true=true then A else B:=by
 rw[if_pos rfl]
 exact h
def Same(H H':Hp):Prop:=∀ b o,H b=some o->H' b=some o
theorem Same.refl(H:Hp):Same H H:=λ_ _ h=>h
theorem Same.trans{H H1 H2:Hp}(a:Same H H1)(b:Same H1 H2):Same H H2:=λc o h=>b c o (a c o h)
theorem Same.free{H H':Hp}(e:Same H H'){l:Addr}(h:H' l=Option.none):H l=Option.none:=by
  cases q:H l with
  | none=>rfl
  | some o =>
    rw[e l o q]at h
    cases h
theorem Same.seq{K:PySem.W.Frag}{H H':Hp}{a:Addr}{xs:List V}(e:Same H H')(h:SqL K H a xs):SqL K H' a xs:=by
 rcases h with(h | ⟨o,h⟩) | h
 ·exact .inl (.inl (e _ _ h))
 ·exact .inl (.inr ⟨o,e _ _ h⟩)
 ·exact .inr h
section
variable{κ :Type}[DecidableEq κ]
theorem zab8{kvs:List (κ × V)}{k: κ}(h:valV kvs k=none):¬ k∈kvs.map (·.1):=by
 intro m
 obtain⟨p,hp,e⟩:=List.mem_map.mp m
 have q:(kvs.any λkv=>decide (kv.1=k))=true:=List.any_eq_true.mpr ⟨p,hp,decide_eq_true e⟩
 rw[zju,h]at q
 exact absurd q (by simp)
theorem zaak:∀ {l:List κ} {k: κ},l.Nodup->¬ k∈l->(l++[k]).Nodup
  | [],k,_,_=>by simp
  | a::r,k,h,hk=>by
    obtain⟨h1,h2⟩:=List.nodup_cons.mp h
    show(a::(r++[k])).Nodup
    refine List.nodup_cons.mpr ⟨λm=> ?_,zaak h2 λm=>hk (List.mem_cons.mpr (Or.inr m))⟩
    rcases List.mem_append.mp m with q | q
    ·exact h1 q
    ·exact hk (List.mem_cons.mpr (Or.inl (List.mem_singleton.mp q).symm))
theorem zaef{kvs:List (κ × V)}{k: κ}(v:V)(hn:(kvs.map (·.1)).Nodup)(h:valV kvs k=none):((putK kvs k v).map (·.1)).Nodup:=by
 rw[zx5 v h,List.map_append]
 exact zaak hn (zab8 h)
end
end L2
set_option linter.all false
set_option maxHeartbeats 4000000
namespace L2
open PySem PySem.Spec PyProof.Rows
theorem zm0 {env:Env}:∀ (names:List (Str × NameKind)) (cs:List (Str × Addr)),
    (∀ x∈names,x.2=.free->∃ c,env.cells.lookup x.1=some c)->(∀ x c,cs.lookup x=some c->env.cells.lookup x=some c) →
    ∃ cl,(forIn names cs λx r=>(if(x.2 == NameKind.free)=true then do let a ← cellOf env x.1;pure (ForInStep.yield ((x.1,a)::r))else pure (ForInStep.yield r):Sem (ForInStep (List (Str × Addr)))))=pure cl ∧
      (∀ x c,cl.lookup x=some c->env.cells.lookup x=some c)/\(∀ x,(cs.lookup x).isSome=true->(cl.lookup x).isSome=true) ∧
      ∀ x∈names,x.2=.free->(cl.lookup x.1).isSome=true
  | [],cs,_,h=>⟨cs,rfl,h,λ_ z=>z,λ_ z=>nomatch z⟩
  | (n, k)::r,cs,hf,h=>by
    by_cases hk:k=.free
    · subst hk
      obtain⟨c,hc⟩:=hf (n,.free) List.mem_cons_self rfl
      obtain⟨cl,e,h1,h2,h3⟩:=zm0 r ((n,c)::cs) (λx hx=>hf x (List.mem_cons_of_mem _ hx)) (λx c' hx=>by
        by_cases hxn:x=n
        ·subst hxn;simp only[List.lookup_cons,beq_self_eq_true]at hx;cases hx;exact hc
        · have:(x == n)=false:=beq_eq_false_iff_ne.mpr hxn
          simp only[List.lookup_cons,this]at hx;exact h x c' hx)
      refine⟨cl,?_,h1,λx hx=>h2 x ?_,λx hx hxf=> ?_⟩
      · rw[List.forIn_cons]
        show((if(NameKind.free == NameKind.free)=true then _ else _) >>= _)=_
        rw[if_pos (show(NameKind.free == NameKind.free)=true from rfl)]
        unfold cellOf
        show(((match env.cells.lookup n with | some a=>pure a | none=>_) >>= _) >>= _)=_
        rw[hc]
        exact e
      · by_cases hxn:x=n
        ·subst hxn;simp
        · have:(x == n)=false:=beq_eq_false_iff_ne.mpr hxn
          simp only[List.lookup_cons,this];exact hx
      · rcases List.mem_cons.mp hx with rfl | hx
        ·exact h2 n (by simp)
        ·exact h3 x hx hxf
    · obtain⟨cl,e,h1,h2,h3⟩:=zm0 r cs (λx hx=>hf x (List.mem_cons_of_mem _ hx)) h
      refine⟨cl,?_,h1,h2,λx hx hxf=> ?_⟩
      · rw[List.forIn_cons]
        have hb:(k == NameKind.free)=false:=by simpa using hk
        show((if(k == NameKind.free)=true then _ else _) >>= _)=_
        rw[if_neg (by simp[hb])]
        exact e
      · rcases List.mem_cons.mp hx with rfl | hx
        ·exact absurd hxf hk
        ·exact h3 x hx hxf
theorem zql{env:Env}{scope:Scope}(hf:∀ x∈scope.names,x.2=.free->∃ c,env.cells.lookup x.1=some c) :
  ∃ cl,closureFor scope env=pure cl/\(∀ x c,cl.lookup x=some c->env.cells.lookup x=some c)/\∀ x∈scope.names,x.2=.free->(cl.lookup x.1).isSome=true:=by
 obtain⟨cl,e,h1,_,h3⟩:=zm0 (env:=env) scope.names [] hf (λx c h=>by simp at h)
 refine⟨cl,?_,h1,h3⟩
 unfold closureFor
 show(forIn scope.names ([]:List (Str × Addr)) _ >>= _)=_
 have:(forIn scope.names ([]:List (Str × Addr)) λx r=>(if(x.2 == NameKind.free)=true then do let a ← cellOf env x.1;pure (ForInStep.yield ((x.1,a)::r))else pure (ForInStep.yield r):Sem (ForInStep (List (Str × Addr))))) >>=(λr=>(pure r:Sem _))=(pure cl:Sem _):=by rw[e];rfl
 exact this
theorem zon{env:Env}:∀ {names:List (Str × NameKind)} {x:Str},names.lookup x=some .free →
    (names.map λ(n,k)=>if(k == NameKind.free && env.scope.kind == .function && env.kindOf n == some .cell)then(n,NameKind.cell)else(n,k)).lookup x=some .cell ∨
    (names.map λ(n,k)=>if(k == NameKind.free && env.scope.kind == .function && env.kindOf n == some .cell)then(n,NameKind.cell)else(n,k)).lookup x=some .free
  | [],_,h=>by simp at h
  | (n,k)::r,x,h=>by
    by_cases hx:x=n
    · subst hx
      simp only[List.lookup_cons,beq_self_eq_true]at h
      cases h
      show List.lookup x ((if _ then(x,NameKind.cell)else(x,NameKind.free))::_)=_\/List.lookup x ((if _ then(x,NameKind.cell)else(x,NameKind.free))::_)=_
      split
      ·exact .inl (by simp)
      ·exact .inr (by simp)
    · have hb:(x == n)=false:=beq_eq_false_iff_ne.mpr hx
      simp only[List.lookup_cons,hb]at h
      have ih:=zon (env:=env) h
      show List.lookup x ((if _ then(n,NameKind.cell)else(n,k))::_)=_\/List.lookup x ((if _ then(n,NameKind.cell)else(n,k))::_)=_
      split<;>(simp only[List.lookup_cons,hb];exact ih)
theorem zoo {env:Env}:∀ {names:List (Str × NameKind)} {x:Str},
    ((names.map λ(n,k)=>if(k == NameKind.free && env.scope.kind == .function && env.kindOf n == some .cell)then(n,NameKind.cell)else(n,k)).lookup x=some .cell ∨
    (names.map λ(n,k)=>if(k == NameKind.free && env.scope.kind == .function && env.kindOf n == some .cell)then(n,NameKind.cell)else(n,k)).lookup x=some .free)->(x,NameKind.free)∈names\/(x,NameKind.cell)∈names
  | [],_,h=>by simp at h
  | (n, k)::r,x,h=>by
    by_cases hx:x=n
    · subst hx
      have h:List.lookup x ((if(k == NameKind.free && env.scope.kind == .function && env.kindOf x == some .cell)=true then(x,NameKind.cell)else(x,k))::_)=some .cell\/List.lookup x ((if(k == NameKind.free && env.scope.kind == .function && env.kindOf x == some .cell)=true then(x,NameKind.cell)else(x,k))::_)=some .free:=h
      split at h
      · rename_i hc
        rw[Bool.and_eq_true,Bool.and_eq_true]at hc
        have:k=.free:=by simpa using hc.1.1
        subst this
        exact .inl List.mem_cons_self
      · simp only[List.lookup_cons,beq_self_eq_true]at h
        rcases h with h | h
        ·cases h;exact .inr List.mem_cons_self
        ·cases h;exact .inl List.mem_cons_self
    · have hb:(x == n)=false:=beq_eq_false_iff_ne.mpr hx
      have h:List.lookup x ((if(k == NameKind.free && env.scope.kind == .function && env.kindOf n == some .cell)=true then(n,NameKind.cell)else(n,k))::_)=some .cell\/List.lookup x ((if(k == NameKind.free && env.scope.kind == .function && env.kindOf n == some .cell)=true then(n,NameKind.cell)else(n,k))::_)=some .free:=h
      have h':=h
      split at h'
      all_goals
        simp only[List.lookup_cons,hb]at h'
        exact(zoo h').imp (List.mem_cons_of_mem _) (List.mem_cons_of_mem _)
theorem zja{a b:Addr}{n:Nat}(h:a<n)(h2:n<=b):a≠b:=Nat.ne_of_lt (Nat.lt_of_lt_of_le h h2)
def Cx.block(X:Cx)(pins:List (Addr × Obj))(s:Shared)(H:Hp)(Nc:List Str)(scope:Scope)(cl:List (Str × Addr))(C:Addr)(fp:List Addr):Cx where
 prog:=X.prog
 w:=X.w
 K:=X.K
 mg:=X.mg
 base:=X.base
 A:=X.A
 N:=Nc
 s₀:=s
 H₀:=H
 env:=compEnvC scope cl C X.env
 outer:=X.stack
 stack:=X.stack
 ex:=fp
 fn:=λ_=>false
 calm:=X.calm
 pn:=X.pn++pins
 xe:=λ_ _=>False
structure zqm(X:Cx)(scope:Scope)(tn cn:List Str)(cap:List Nat):Prop where
 kind:scope.kind=.function
 nocell:∀ y∈scope.names,y.2≠.cell
 names:∀ y∈scope.names,y.2=.local->scope.names.lookup y.1=some .local
 free:∀ y∈scope.names,y.2=.free->X.env.kindOf y.1=some .cell\/X.env.kindOf y.1=some .free
 drawn:∀ x∈cn,scope.names.lookup x=some .free
 caps:cap.map (λi=>X.N[i]?)=cn.map some
def zu5(k:Nat)(cap:List Nat)(σ:St):St:=List.replicate k none++cap.map λi=>(σ[i]?).join
theorem HOk.track{P:Program}{w:World}{H:Hp}{h:Heap}{a:Addr}{o:HO}(x:HOk P w H h)(hn:H a=none)(new:ObjOk P w (upd H a o) h a o):HOk P w (upd H a o) h:=λb u e=>by
 by_cases hb:b=a
 ·subst hb;rw[zac]at e;cases e;exact new
 ·rw[zag hb]at e
  refine(x b u e).stay (λ_ _ _ q=>q) (λc q=> ?_) λc xs q=> ?_
  ·rw[zag (zai q hn)];exact q
  ·rw[zag (zai q hn)];exact q
section
variable{X:Cx}{pins:List (Addr × Obj)}{σ:St}{H:Hp}{s:Shared}
theorem Inv.pinlt(I:Inv X pins σ H s){p:Addr × Obj}(hp:p∈X.pn++pins):p.1<s.heap.objs.size:=Heap.lt_size (I.pin p hp).1
theorem Inv.stkne(I:Inv X pins σ H s){b:Addr}(h1:b≠X.env.locals)(h2:b∉X.fs):b∉frs X.stack:=λz=>(List.mem_cons.mp (I.stkSub b z)).elim h1 h2
theorem Inv.stklt(I:Inv X pins σ H s){b:Addr}(h:b∈frs X.stack):b<s.heap.objs.size:=by
 obtain⟨_,o,ho,_⟩:=I.stack.mem h
 exact Heap.lt_size ho
theorem Inv.block {scope:Scope} {tn cn:List Str} {cap:List Nat} {cl:List (Str × Addr)} {C:Addr} {fp:List Addr} {pins':List (Addr × Obj)} {s1:Shared} (I:Inv X pins σ H s) (S:zqm X scope tn cn cap)
    (hcl:∀ x c,cl.lookup x=some c->X.env.cells.lookup x=some c) (hcl2:∀ x∈scope.names,x.2=.free->(cl.lookup x.1).isSome=true)
    (hf:∀ b∈fp,FpOk X pins H b) (hfl:∀ b∈fp,b<s.heap.objs.size) (hC:s.heap.objs.size<=C) (k:∀ b o,s.heap.get? b=some o->s1.heap.get? b=some o)
    (hos:s1.os=s.os) (hg:s1.gens=s.gens) (hns:∃ m,s1.heap.Ns C m)
    (hp:∀ p∈pins',s1.heap.get? p.1=some p.2/\H p.1=none/\p.1≠C/\p.1∉frs X.stack/\∀ v,p.2.data≠.cell v) :
    Inv (X.block pins s H (tn++cn) scope cl C fp) pins' (zu5 tn.length cap σ) H s1:=by
  have ok:(X.block pins s H (tn++cn) scope cl C fp).Ok:=by
    refine⟨I.ok.mod,S.kind,I.ok.glob,I.ok.blt,hC,λx y c h1 h2=>I.ok.inj x y c (hcl x c h1) (hcl y c h2),λx hx=> ?_,λx c z _=>(by cases z),I.ok.hd,I.ok.frames,.inl rfl,λb hb=>⟨?_,λx c e=>(hf b hb).2.2.2.2.1 x c (hcl x c e)⟩,I.bs,Nat.le_trans I.ok.bsz I.sz,λb o e hb=> ?_,λb hb=>I.stkne (hf b hb).2.1 (hf b hb).2.2.1,I.stack,I.stkFree⟩
    · rcases zoo (env:=X.env) hx with z | z
      ·exact Option.isSome_iff_exists.mp (hcl2 _ z rfl)
      ·exact absurd rfl (S.nocell _ z)
    ·exact Nat.ne_of_lt (Nat.lt_of_lt_of_le (hfl b hb) hC)
    · rcases(hf b hb).2.2.2.1 with z | z
      ·exact I.ok.noex b o e z
      · have h1:b<X.base.objs.size:=Heap.lt_size e
        exact absurd (Nat.lt_of_lt_of_le h1 (Nat.le_trans I.ok.bsz z)) (Nat.lt_irrefl _)
  refine⟨ok,hos,by rw[hg];exact I.bare,Un.kept k,?_,λx c e=> ?_,I.hok.fresh hC,λx c e=>I.freeC x c (hcl x c e),λp hp'=> ?_,I.hok.kept k,?_⟩
  · obtain⟨m,hm⟩:=hns
    refine⟨m,hm,λi x v h1 h2 h3=> ?_⟩
    have hi:tn.length<=i:=by
      rcases Nat.lt_or_ge i tn.length with z | z
      · unfold zu5 at h2
        rw[List.getElem?_append_left (by simpa using z),List.getElem?_replicate]at h2
        split at h2<;>cases h2
      ·exact z
    unfold zu5 at h2
    rw[List.getElem?_append_right (by simpa using hi),List.length_replicate,List.getElem?_map]at h2
    have h1':cn[i - tn.length]? =some x:=by
      have:(tn++cn)[i]? =some x:=h1
      rwa [List.getElem?_append_right hi]at this
    cases hq:cap[i - tn.length]? with
    | none=>rw[hq]at h2;cases h2
    | some j =>
      rw[hq]at h2
      have hj:X.N[j]? =some x:=by
        have:=congrArg (λl=>l[i - tn.length]?) S.caps
        simp only[List.getElem?_map,hq,h1',Option.map_some]at this
        exact Option.some.inj this
      have hv:σ[j]? =some (some v):=by
        cases hs:σ[j]? with
        | none=>simp[hs]at h2
        | some y=>simp only[Option.map_some,hs,Option.join_some]at h2;cases h2;rfl
      have hxf:(x,NameKind.free)∈scope.names:=PySem.mem_of_lookup (S.drawn x (List.mem_of_getElem? h1'))
      have hk:=S.free _ hxf rfl
      obtain⟨m0,_,hl0⟩:=I.loc
      obtain⟨u,r,q⟩:=hl0 j x v hj hv (hk.elim (λz=>.inr (.inl z)) λz=>.inr (.inr z))
      refine⟨u,r,.inr ⟨zon (S.drawn x (List.mem_of_getElem? h1')),?_⟩⟩
      rcases q with⟨kl,_⟩ | ⟨_,c,hc,z⟩
      · have kl':X.env.kindOf x=some .local:=kl
        rcases hk with hk | hk<;>(rw[kl']at hk;cases hk)
      · obtain⟨c',hc'⟩:=Option.isSome_iff_exists.mp (hcl2 _ hxf rfl)
        have:=hcl _ _ hc'
        rw[hc]at this
        cases this
        exact⟨c,hc',z.keeps k⟩
  · obtain⟨v,z⟩:=I.cell x c (hcl x c e)
    exact⟨v,z.keeps k⟩
  · rcases List.mem_append.mp hp' with z | z
    · obtain⟨e,n,ne,nf,d⟩:=I.pin p z
      exact⟨k _ _ e,n,Nat.ne_of_lt (Nat.lt_of_lt_of_le (Heap.lt_size e) hC),I.stkne ne nf,d⟩
    ·exact hp p z
  · unfold zu5
    show _=(tn++cn).length
    have:=congrArg List.length S.caps
    simp only[List.length_map]at this
    simp[this]
end
def zlu:TT:=λ_ H Q=>Q true H
def PTs (X:Cx) (ifs:List Expr) (t:TT):Prop :=
  ∀ (pins:List (Addr × Obj)) (s:Shared) (σ:St) (H:Hp) (Q:Bool->Hp->Prop),Inv X pins σ H s->t σ H Q →
    wpAny (model X.prog X.w) X.A (forIn ifs true λc r=>if r=true then do let ok ← isTrue c X.env (eval c X.env);pure (ForInStep.yield ok)else pure (ForInStep.yield r)) (TP X pins σ Q) X.xe s
theorem zki{X:Cx}:PTs X [] zlu:=λpins s σ H Q I h=>wpAny_tests_nil ⟨H,I,h⟩
theorem zaal{X:Cx}{c:Expr}{t:TT}(h:PT X c t):PTs X [c] t:=λpins s σ H Q I q=>wpAny_tests_one (h pins s σ H Q I q)
theorem zaam {prog:Program} {w:World} {A:Around} {R:Result->Shared->Prop} {s:Shared} {elt target iter:Expr} {ifs:List Expr} {scope:Scope} {pos:Pos} {it acc:Value} {env:Env} (Jn:Nat->Shared->Prop)
    (turn : ∀ n s,Jn n s->wpAny (model prog w) A (pyNext it) (λr s₁=>match r with
      | none=>R (.ok .next) s₁
      | some v=>wpAny (model prog w) A (letOwnedTupleGo target it v) (λ_ s₂=>wpAny (model prog w) A (assign target env v) (λ_ s₃ =>
          wpAny (model prog w) A (forIn ifs true λc r=>if r=true then do let ok ← isTrue c env (eval c env);pure (ForInStep.yield ok)else pure (ForInStep.yield r)) (λok s₄ =>
            if ok=true then wpAny (model prog w) A (eval elt env) (λx s₅ =>
              wpAny (model prog w) A (call (.builtin "list.append") [acc,x]) (λ_ s₆=>∃ m,m<n/\Jn m s₆) (λ_ _=>False) s₅) (λ_ _=>False) s₄
            else ∃ m,m<n/\Jn m s₄) (λ_ _=>False) s₃) (λ_ _=>False) s₂) (λ_ _=>False) s₁) (λ_ _=>False) s)
    (n:Nat) (h:Jn n s):codeAny (model prog w) A (.compLoop (.ListComp elt [⟨target,iter,ifs,0⟩] scope pos) 0 it acc env) R s:=by
  refine codeAny_loop rfl Jn (λn' s' hJ=> ?_) n h
  show wpAny _ A ((compTurn (.ListComp elt [⟨target,iter,ifs,0⟩] scope pos) 0 it acc env).onRaise (λx'=>do noteFrame x' env;theTreesLotGoes x')) _ _ s'
  refine wpAny_noted (wpAny_noRaise ?_)
  rw[compTurn_list]
  refine wpAny_bind (wpAny_standAt (wpAny_bind (thn (turn n' s' hJ) λr s₁ h₁=> ?_)))
  cases r with
  | none=>exact wpAny_pure h₁
  | some v =>
    refine wpAny_bind (thn h₁ λ_ s₂ h₂=> ?_)
    refine wpAny_bind (thn h₂ λ_ s₃ h₃=>wpAny_bind (thn h₃ λok s₄ h₄=> ?_))
    cases ok with
    | false=>exact wpAny_pure ⟨rfl,h₄⟩
    | true=>exact wpAny_bind (wpAny_bind (thn h₄ λx' s₅ h₅=>wpAny_bind (thn h₅ λ_ s₆ h₆=>wpAny_pure (wpAny_pure ⟨rfl,h₆⟩))))
def zlv (wi:TI) (g:TG) (tt:TT) (te:TE) (k:Nat) (cap:List Nat):TE:=λσ H Q=>wi σ H λJ H1 =>
  ∃ W : Nat->Nat->St->List V->Hp->Prop,(∃ m,W 0 m (zu5 k cap σ) [] H1)/\∀ i m σ' ys H,W i m σ' ys H →
    (J.stop i H/\∀ p,H p=none->Q (.ref p) (upd H p (.lst ys))) ∨
    (J.go i H/\ys.length<sizeLine/\∀ x H',J.yld i H x H'->g x σ' H' λσ2 H2=>tt σ2 H2 λb H3 =>
      if b=true then ∃ N:VK,(∀ y H4,N y H4->∃ m',m'<m/\W (i+1) m' σ2 (ys++[y]) H4)/\te σ2 H3 N else ∃ m',m'<m/\W (i+1) m' σ2 ys H3)
structure CompDone(X:Cx)(fp:List Addr)(H:Hp)(s:Shared)(Q:VK)(acc:Value)(C:Addr)(r:Result)(s':Shared):Prop where
 ok:r=.ok .next
 ex:∃ (D:Addr) (ys:List V) (its:List Value) (n:Nat) (H':Hp),acc=.ref D/\Vals ys its/\ys.length<=sizeLine/\s'.heap.get? D=some { cls:=.type "list",data:=.seq its.toArray n }/\s.heap.objs.size<=D/\D≠C/\H' D=none/\H' C=none ∧
  (∃ m,s'.heap.Ns C m)/\Un (frs X.stack) fp H H' s.heap s'.heap/\HOk X.prog X.w H' s'.heap/\∀ p,H' p=none->Q (.ref p) (upd H' p (.lst ys))
 ge:s.heap.objs.size<=C
 os:s'.os=s.os
 bare:AllBare s'.gens
section
variable{X:Cx}{pins:List (Addr × Obj)}{σ:St}{H:Hp}{s:Shared}
theorem zyb {tg iter elt:Expr} {ifs:List Expr} {scope:Scope} {pos:Pos} {g:TG} {tt:TT} {te:TE} {tn cn:List Str} {cap:List Nat} {cl:List (Str × Addr)} {it:Addr} {fp:List Addr} {tn':Nat->Heap->Prop} {J:It} {Q:VK} {E:Value->Shared->Prop}
    (I:Inv X pins σ H s) (S:zqm X scope tn cn cap) (hc:X.calm=true)
    (hcl:∀ x c,cl.lookup x=some c->X.env.cells.lookup x=some c) (hcl2:∀ x∈scope.names,x.2=.free->(cl.lookup x.1).isSome=true)
    (T:Turn X.prog X.w X.K tg J fp it tn') (st:tn' 0 s.heap) (hf:∀ b∈fp,FpOk X pins H b)
    (hg:∀ C,PG (X.block pins s H (tn++cn) scope cl C fp) tg g) (ht:∀ C,PTs (X.block pins s H (tn++cn) scope cl C fp) ifs tt) (he:∀ C,PE (X.block pins s H (tn++cn) scope cl C fp) elt te)
    (W:Nat->Nat->St->List V->Hp->Prop) {m0:Nat} (w0:W 0 m0 (zu5 tn.length cap σ) [] H)
    (step:∀ i m σ' ys H,W i m σ' ys H →
      (J.stop i H/\∀ p,H p=none->Q (.ref p) (upd H p (.lst ys))) ∨
      (J.go i H/\ys.length<sizeLine/\∀ x H',J.yld i H x H'->g x σ' H' λσ2 H2=>tt σ2 H2 λb H3 =>
        if b=true then ∃ N:VK,(∀ y H4,N y H4->∃ m',m'<m/\W (i+1) m' σ2 (ys++[y]) H4)/\te σ2 H3 N else ∃ m',m'<m/\W (i+1) m' σ2 ys H3)) :
    wpAny (model X.prog X.w) X.A (newList []) (λacc s₃=>wpAny (model X.prog X.w) X.A (newFunctionEnv scope X.env.globals cl [] X.env.qual none .none (some X.env)) (λcenv s₄ =>
      codeAny (model X.prog X.w) X.A (.compStart (.ListComp elt [⟨tg,iter,ifs,0⟩] scope pos) 0 (.ref it) acc { cenv with scope:=relabel scope X.env }) (CompDone X fp H s Q acc cenv.locals) s₄) E s₃) E s:=by
  refine wpAny_newObj_type (wpAny_newFunctionEnv S.nocell (by intro y hy;simp at hy) (λh₁ hns₁ hsb₁=> ?_) S.kind)
  dsimp only at hns₁ hsb₁ ⊢
  generalize hH2:s.heap.push { cls:=.type "list",dict:=none,data:=.seq ([]:List Value).toArray }=H2 at hns₁ hsb₁ ⊢
  have hCs:H2.objs.size=s.heap.objs.size+1:=by rw[<-hH2,Heap.size_push]
  generalize hCe:H2.objs.size=C at hns₁ hsb₁ ⊢
  have hC:C=s.heap.objs.size+1:=hCe.symm.trans hCs
  generalize hD:s.heap.objs.size=D at *
  have hDC:D≠C:=by rw[hC];exact Nat.ne_of_lt (Nat.lt_succ_self _)
  have old:∀ b o,s.heap.get? b=some o->h₁.get? b=some o:=λb o e=>by
    have hb:b<D:=by rw[<-hD];exact Heap.lt_size e
    have hbC:b≠C:=zja hb (by rw[hC];exact Nat.le_succ _)
    exact hsb₁.extBut b o hbC (Heap.get?_push_of_some _ (hH2 ▸ Heap.get?_push_of_some _ e))
  have hDo:h₁.get? D=some { cls:=.type "list",data:=.seq ([]:List Value).toArray }:=by
    refine hsb₁.extBut _ _ hDC (Heap.get?_push_of_some _ ?_)
    rw[<-hH2,<-hD]
    exact Heap.get?_push_size _ rfl
  have hfl:∀ b∈fp,b<s.heap.objs.size:=λb hb=>by
    obtain⟨o,e,_⟩:=T.obj 0 _ st b hb
    exact Heap.lt_size e
  have hDn:H D=none:=by rw[<-hD];exact I.hok.fresh (Nat.le_refl _)
  have hDs:D∉frs X.stack:=λz=>zja (I.stklt z) (Nat.le_of_eq hD) rfl
  have I0:Inv (X.block pins s H (tn++cn) scope cl C fp) [(D,{ cls:=.type "list",data:=.seq ([]:List Value).toArray 0 })] (zu5 tn.length cap σ) H { s with heap:=h₁,toks:=s.toks+([]:List (Str × Value)).length } :=
    I.block S hcl hcl2 hf hfl (by omega) old rfl rfl ⟨_,hns₁⟩ λp hp=>by
      rw[List.mem_singleton]at hp
      subst hp
      exact⟨hDo,hDn,hDC,hDs,λv z=>nomatch z⟩
  have fpok:∀ {H':Hp} {o:Obj},(∀ b∈fp,H' b=none)->∀ b∈fp,FpOk (X.block pins s H (tn++cn) scope cl C fp) [(D,o)] H' b:=λ{H' o} hn b hb=>by
    obtain⟨_,f1,f2,f3,f4,f5⟩:=hf b hb
    have hbl:=hfl b hb
    refine⟨hn b hb,?_,I.stkne f1 f2,.inl hb,λx c e=>f4 x c (hcl x c e),λp hp=> ?_⟩
    ·exact zja hbl (by rw[hD,hC];exact Nat.le_succ _)
    · rcases List.mem_append.mp hp with z | z
      ·exact f5 p z
      ·rw[List.mem_singleton]at z;subst z;exact Ne.symm (zja hbl (Nat.le_of_eq hD))
  have st1:tn' 0 h₁:=T.keep _ _ _ st λb _ o e=>old b o e
  have loop : ∀ s₃:Shared,s₃={ s with heap:=h₁,toks:=s.toks+([]:List (Str × Value)).length } →
      codeAny (model X.prog X.w) X.A (.compLoop (.ListComp elt [⟨tg,iter,ifs,0⟩] scope pos) 0 (.ref it) (.ref D) (compEnvC scope cl C X.env)) (CompDone X fp H s Q (.ref D) C) s₃:=by
    rintro s₃ rfl
    refine zaam (λn s'=>∃ i σ' ys its nn H',Inv (X.block pins s H (tn++cn) scope cl C fp) [(D,{ cls:=.type "list",data:=.seq (its:List Value).toArray nn })] σ' H' s'/\tn' i s'.heap/\(∀ b∈fp,H' b=none)/\Vals ys its/\ys.length<=sizeLine/\W i n σ' ys H') ?_ m0
      ⟨0,_,[],[],0,H,I0,st1,λb hb=>(hf b hb).1,.nil,Nat.zero_le _,w0⟩
    rintro n s4 ⟨i,σ4,ys,its,nn,H4,I4,st4,fr4,r4,l4,w4⟩
    rcases step i n σ4 ys H4 w4 with⟨stop,qn⟩ | ⟨go,hlt,next⟩
    · refine thn (T.done (X.block pins s H (tn++cn) scope cl C fp) rfl rfl rfl hc i _ s4 σ4 H4 _ I4 (fpok fr4) st4 stop) λr s5 ⟨hr,I5⟩=> ?_
      subst hr
      have hp:=I5.pin (D,_) (List.mem_append_right _ List.mem_cons_self)
      obtain⟨m5,hm5,_⟩:=I5.loc
      exact⟨rfl,⟨D,ys,its,nn,H4,rfl,r4,l4,hp.1,by omega,hDC,hp.2.1,I5.free,⟨m5,hm5⟩,I5.base,I5.hok,qn⟩,by omega,I5.os,I5.bare⟩
    · refine thn (T.item (X.block pins s H (tn++cn) scope cl C fp) rfl rfl rfl hc i _ s4 σ4 H4 _ I4 (fpok fr4) st4 go) λr s5 ⟨u,hr,h5⟩=> ?_
      subst hr
      refine thn h5 λ_ s6 ⟨x,H6,I6,r6,y6,st6,fr6⟩=> ?_
      have I6':=I6.pinned (fpok fr6) (T.obj _ _ st6)
      refine thn (hg C _ s6 σ4 H6 x u _ I6' r6 (next x H6 y6)) λ_ s7 ⟨σ7,H7,I7,q7⟩=> ?_
      refine thn (ht C _ s7 σ7 H7 _ I7 q7) λok s8 ⟨H8,I8,q8⟩=> ?_
      have keepst:∀ {σ9:St} {H9:Hp} {s9:Shared},Inv (X.block pins s H (tn++cn) scope cl C fp) ([(D,{ cls:=.type "list",data:=.seq its.toArray nn })]++zuv fp s6.heap) σ9 H9 s9->(∀ b∈fp,∀ o,s6.heap.get? b=some o->s9.heap.get? b=some o)/\∀ b∈fp,H9 b=none:=λ{σ9 H9 s9} I9=>by
        refine⟨λb hb o e=>(I9.pin (b,o) (List.mem_append_right _ (List.mem_append_right _ (zjt hb e)))).1,λb hb=> ?_⟩
        obtain⟨o,e,_⟩:=T.obj _ _ st6 b hb
        exact(I9.pin (b,o) (List.mem_append_right _ (List.mem_append_right _ (zjt hb e)))).2.1
      cases ok with
      | false =>
        obtain⟨m',hm',w'⟩:=q8
        obtain⟨k1,k2⟩:=keepst I8
        exact⟨m',hm',i+1,σ7,ys,its,nn,H8,I8.unpinned,T.keep _ _ _ st6 k1,k2,r4,l4,w'⟩
      | true =>
        obtain⟨Nw,hN,q8⟩:=q8
        refine thn (he C _ s8 σ7 H8 Nw I8 q8) λv s9 ⟨y,H9,I9,r9,n9⟩=> ?_
        obtain⟨m',hm',w'⟩:=hN y H9 n9
        obtain⟨k1,k2⟩:=keepst I9
        have hp:=I9.pin (D,_) (List.mem_append_right _ (List.mem_append_left _ List.mem_cons_self))
        have e:=hp.1
        have hlen:=r4.length
        refine call_meets F.slot_list_append ⟨_,e,rfl⟩ F.entry_list_append (F.args_list_append_2 _ _) (PySem.list_append D its.toArray nn v (by rw[List.size_toArray];omega)) ⟨e,?_⟩
        have q:=PySem.IsL.update e (λxs=>xs.push v)
        have Ia:Inv (X.block pins s H (tn++cn) scope cl C fp) [] σ7 H9 s9:=I9.pins_of λp hp=>nomatch hp
        have Ib:=Ia.turned (h':=s9.heap.update D (Obj.mapSeq (·.push v))) (t':=s9.toks) (it:=D) (λb o hb eb=>(Heap.get?_update_other _ _ (Ne.symm hb)).trans eb) hp.2.1 hDC (.inr (by show s.heap.objs.size<=D;omega))
          (λx c ec z=>by
            obtain⟨vv,zc⟩:=I.cell x c (hcl x c ec)
            exact zja zc.lt (Nat.le_of_eq hD) z)
          (λp hp'=>by
            rw[List.append_nil]at hp'
            exact zja (I.pinlt hp') (Nat.le_of_eq hD))
        have q':(s9.heap.update D (Obj.mapSeq (·.push v))).get? D=some { cls:=.type "list",data:=.seq (its++[v]).toArray (nn+1) }:=by
          rw[if_neg (by simp)]at q
          rw[<-List.push_toArray]
          exact q
        refine⟨m',hm',i+1,σ7,ys++[y],its++[v],nn+1,H9,Ib.pins_of (λp hp'=> ?_),T.keep _ _ _ st6 λb hb o eb=> ?_,k2,r4.append (.cons r9 .nil),?_,w'⟩
        · rw[List.mem_singleton]at hp'
          subst hp'
          exact⟨q',hp.2.1,hDC,hDs,λv' z=>nomatch z⟩
        · have hbl:=hfl b hb
          exact(Heap.get?_update_other _ _ (Ne.symm (zja hbl (Nat.le_of_eq hD)))).trans (k1 b hb o eb)
        · rw[List.length_append,List.length_singleton]
          omega
  exact codeAny_compStart_list (loop _ rfl) (T.self _ 0 _ _ _ st1 (loop _ rfl))
theorem CompDone.inv{Q:VK}{acc:Value}{C:Addr}{r:Result}{s':Shared}{fp:List Addr}(I:Inv X pins σ H s)(hf:∀ b∈fp,FpOk X pins H b)(h:CompDone X fp H s Q acc C r s') :
  ∃ D H',acc=.ref D/\Inv X pins σ H' s'/\Q (.ref D) H'/\H' C=none/\∃ m,s'.heap.Ns C m:=by
 obtain⟨_,⟨D,ys,its,n,H',rfl,r4,l4,e,hD,hDC,hDn,hCn,hm,u,ok,q⟩,hC,os,bare⟩:=h
 have lt:∀ b o,s.heap.get? b=some o->b≠D:=λb o eb=>zja (Heap.lt_size eb) hD
 have ltH:∀ b o,H b=some o->b≠D:=λb o eb=>zja (I.hok.lt eb) hD
 refine⟨D,upd H' D (.lst ys),rfl,I.call' (ch:=fp) os ⟨u.keep,u.slot,λb o eb n' hx=> ?_,u.there,λb xs eb=> ?_,λb o x eb=> ?_,λb ps eb=> ?_⟩ (ok.track hDn ⟨l4,its,n,r4,e⟩) bare (λb hb=> ?_),q D hDn,?_,hm⟩
 ·rw[zag (lt b o eb)];exact u.free b o eb n' hx
 ·rw[zag (ltH b _ eb)];exact u.tups b xs eb
 ·rw[zag (ltH b _ eb)];exact u.frzs b o x eb
 ·rw[zag (ltH b _ eb)];exact u.tbls b ps eb
 ·obtain⟨_,f1,f2,f3,f4,f5⟩:=hf b hb
  exact⟨f3,f1,f4,f5⟩
 ·rw[zag (Ne.symm hDC)];exact hCn
theorem Inv.letgo{C:Addr}{h':Heap}{s1:Shared}{σ1:St}{H1:Hp}(I:Inv X pins σ H s)(hC:s.heap.objs.size<=C)(I1:Inv X pins σ1 H1 s1)(hn:H1 C=none)(hs:Heap.SameBut C s1.heap h'):Inv X pins σ1 H1 { s1 with heap:=h' }:=by
 refine I1.turned (t':=s1.toks) (it:=C) (λb o hb e=>(hs.2 b hb).trans e) hn (λz=> ?_) (.inr ?_) (λx c e z=> ?_) λp hp z=> ?_
 ·exact zja I.lt hC z.symm
 ·exact Nat.le_trans I.sz hC
 ·obtain⟨v,zc⟩:=I.cell x c e
  exact zja zc.lt hC z
 ·exact zja (I.pinlt hp) hC z
variable{tg iter elt:Expr}{ifs:List Expr}{scope:Scope}{pos:Pos}{wi:TI}{g:TG}{tt:TT}{te:TE}{tn cn:List Str}{cap:List Nat}
theorem zqn(S:zqm X scope tn cn cap)(hc:X.calm=true)(hi:PI X tg iter wi)
  (hg:∀ pins s H cl C fp,PG (X.block pins s H (tn++cn) scope cl C fp) tg g) (ht:∀ pins s H cl C fp,PTs (X.block pins s H (tn++cn) scope cl C fp) ifs tt) (he:∀ pins s H cl C fp,PE (X.block pins s H (tn++cn) scope cl C fp) elt te)
  (hs:∀ x,foldedSetIterable iter X.env x=pure x:=by intro _;rfl):PE X (.ListComp elt [⟨tg,iter,ifs,0⟩] scope pos) (zlv wi g tt te tn.length cap):=by
 intro pins s σ H Q I h
 obtain⟨cl,ecl,hcl,hcl2⟩:=zql (env:=X.env) (scope:=scope) λx hx hxf=>I.ok.has x.1 (S.free x hx hxf)
 rw[eval_ListComp]
 refine wpAny_comprehension_free (use:=none) rfl hs ecl S.kind S.names (thn (hi pins s σ H _ I h) λv s1 h1=>thn h1 λitv s2 h2=> ?_)
 obtain⟨it,fp,tn',J,H2,e,I2,T,st2,f2,W,⟨m0,w0⟩,turn⟩:=h2
 subst e
 refine thn (zyb I2 S hc hcl hcl2 T st2 f2 (λC=>hg _ _ _ _ C _) (λC=>ht _ _ _ _ C _) (λC=>he _ _ _ _ C _) W w0 turn) λacc s3 h3=>thn h3 λcenv s4 h4=>codeAny_mono h4 λr s5 h5=> ?_
 have hr:=h5.ok
 subst hr
 obtain⟨D,H',rfl,I5,q5,hCn,m,hm⟩:=h5.inv I2 f2
 exact⟨m,hm,λh' hs'=>⟨.ref D,H',I2.letgo h5.ge I5 hCn hs',rfl,q5⟩⟩
theorem ztm{i:Nat}{x:Str}{px spos:Pos}(S:zqm X scope tn cn cap)(hc:X.calm=true)(hN:X.N.Nodup)(hi':X.N[i]? =some x)(hx:X.env.scope.names.lookup x=some .local)(hi:PI X tg iter wi)
  (hg:∀ pins s H cl C fp,PG (X.block pins s H (tn++cn) scope cl C fp) tg g) (ht:∀ pins s H cl C fp,PTs (X.block pins s H (tn++cn) scope cl C fp) ifs tt) (he:∀ pins s H cl C fp,PE (X.block pins s H (tn++cn) scope cl C fp) elt te)
  (hsw:swapsWith (.ListComp elt [⟨tg,iter,ifs,0⟩] scope pos) (some (.Name x px)) spos.line X.env=pure true:=by rfl)
  (hs:∀ x,foldedSetIterable iter X.env x=pure x:=by intro _;rfl):PS X (.Assign [.Name x px] (.ListComp elt [⟨tg,iter,ifs,0⟩] scope pos) spos) (tAsg (zlv wi g tt te tn.length cap) (zaz i)):=by
 intro pins s σ H D I h
 obtain⟨cl,ecl,hcl,hcl2⟩:=zql (env:=X.env) (scope:=scope) λx hx hxf=>I.ok.has x.1 (S.free x hx hxf)
 rw[exec_Assign_Name_used _ _ _ _ hsw]
 refine wpAny_bind (wpAny_standAt (wpAny_bind ?_))
 unfold evalThenUse
 refine wpAny_bind ?_
 refine wpAny_comprehension_free (use:=some (assign (.Name x px) X.env)) rfl hs ecl S.kind S.names (thn (hi pins s σ H _ I h) λv s1 h1=>thn h1 λitv s2 h2=> ?_)
 obtain⟨it,fp,tn',J,H2,e,I2,T,st2,f2,W,⟨m0,w0⟩,turn⟩:=h2
 subst e
 refine thn (zyb (Q:=λx' H1=>zaz i x' σ H1 D.nx) I2 S hc hcl hcl2 T st2 f2 (λC=>hg _ _ _ _ C _) (λC=>ht _ _ _ _ C _) (λC=>he _ _ _ _ C _) W w0 turn) λacc s3 h3=>thn h3 λcenv s4 h4=>codeAny_mono h4 λr s5 h5=> ?_
 have hr:=h5.ok
 subst hr
 obtain⟨Da,H',rfl,I5,q5,hCn,m,hm⟩:=h5.inv I2 f2
 show wpAny _ _ (assign (.Name x px) X.env (.ref Da)) _ _ s5
 refine wpAny_assign_Name (zur I5 hN hi' (.inl hx) (show RelV (.ref Da) (.ref Da)from rfl) (λs6 I6 ⟨a,hsb,ha⟩=> ?_) (.inr hx))
 refine⟨m,hm.sameBut hsb ?_,λh' hs'=> ?_⟩
 ·rcases ha with z | z
  ·exact Ne.symm (z ▸ zja I2.lt h5.ge)
  ·obtain⟨vv,zc⟩:=I2.cell x a z
   exact Ne.symm (zja zc.lt h5.ge)
 ·exact wpAny_pure (wpAny_pure ⟨σ.set i (some (.ref Da)),H',I2.letgo h5.ge I6 hCn hs',q5⟩)
end
end L2
set_option linter.all false
set_option maxHeartbeats 4000000
namespace L2
open PySem PySem.Spec PyProof.Rows
theorem ObjOk.there{P:Program}{w:World}{H:Hp}{h:Heap}{a:Addr}{o:HO}(x:ObjOk P w H h a o):∃ ob,h.get? a=some ob:=by
 cases o with
 | lst xs=>obtain⟨_,_,_,_,e⟩:=x;exact⟨_,e⟩
 | tup xs=>obtain⟨_,_,_,ob,e,_⟩:=x;exact⟨_,e⟩
 | dK kvs=>obtain⟨_,_,_,_,ob,_,_,e,_⟩:=x;exact⟨_,e⟩
 | dT kvs=>obtain⟨_,_,_,_,ob,_,_,e,_⟩:=x;exact⟨_,e⟩
 | set S n=>obtain⟨ob,_,_,_,e,_⟩:=x;exact⟨_,e⟩
 | ins C dx fs=>obtain⟨_,_,_,e,_⟩:=x;exact⟨_,e⟩
 | own y=>exact x
 | xd fs=>obtain⟨_,⟨ob,_,_,e,_⟩,_⟩:=x;exact⟨_,e⟩
 | rng lo hi=>obtain⟨_,_,_,e⟩:=x;exact⟨_,e⟩
 | frz ob u=>obtain⟨e,_⟩:=x;exact⟨_,e⟩
 | tbl ps=>exact⟨_,show h.get? a=some _ from x⟩
 | met f y=>exact⟨_,show h.get? a=some _ from x⟩
 | ext φ =>exact x.2.1
theorem HOk.nh{P:Program}{w:World}{H:Hp}{h:Heap}{a:Addr}(x:HOk P w H h)(e:h.get? a=none):H a=none:=by
  cases q:H a with
  | none=>rfl
  | some o =>
    obtain⟨ob,e'⟩:=(x a o q).there
    rw[e]at e';cases e'
section
variable{X:Cx}{pins:List (Addr × Obj)}{σ:St}{H H':Hp}{s:Shared}{h':Heap}
theorem Inv.stepN{g':Array GenState}{t':Nat}{d':Drawn}{ch:List Addr}(I:Inv X pins σ H s)
  (hch:∀ b∈ch,(b∈X.ex\/X.s₀.heap.get? b=none)/\b≠X.env.locals/\(∀ x c,X.env.cells.lookup x=some c->c≠b)/\∀ p∈X.pn++pins,p.1≠b)
  (keep:∀ b o,b≠X.env.locals->b∉X.fs->b∉ch->s.heap.get? b=some o->H b=none->h'.get? b=some o)
  (slot:∀ b o,b≠X.env.locals->b∈X.fs->b∉ch->s.heap.get? b=some o->H b=none->∃ sl,h'.get? b=some { o with slots:=sl }) (free:∀ b o,b∉ch->s.heap.get? b=some o->H b=none->H' b=none)
  (there:∀ b o,b∉ch->s.heap.get? b=some o->∃ o',h'.get? b=some o')
  (tups:∀ b xs,H b=some (.tup xs)->H' b=some (.tup xs)) (frzs:∀ b o u,H b=some (.frz o u)->H' b=some (.frz o u)) (tbls:∀ b ps,H b=some (.tbl ps)->∃ more,H' b=some (.tbl (ps++more)))
  (ns:∀ m,s.heap.Ns X.env.locals m->h'.Ns X.env.locals m) (hok:HOk X.prog X.w H' h') (hg:AllBare g') :
  Inv X pins σ H' { s with heap:=h',gens:=g',drawn:=d',toks:=t' }:=by
 have neL:∀ b o,X.s₀.heap.get? b=some o->b≠X.env.locals:=λb o e=>Nat.ne_of_lt (Nat.lt_of_lt_of_le (Heap.lt_size e) I.ok.above)
 have neC:∀ b o,X.s₀.heap.get? b=some o->b∉X.ex->b∉ch:=λb o e hx hb=>by
  rcases(hch b hb).1 with z | z
  ·exact hx z
  ·rw[e]at z;cases z
 have cellK:∀ x c,X.env.cells.lookup x=some c->∀ v,s.heap.IsCell c v->h'.IsCell c v:=λx c e v ⟨o,ho,hd⟩=>by
  have nch:c∉ch:=λz=>(hch c z).2.2.1 x c e rfl
  by_cases hc:c∈X.fs
  ·obtain⟨sl,q⟩:=slot c o (I.cne x c e) hc nch ho (I.freeC x c e)
   exact⟨_,q,hd⟩
  ·exact⟨o,keep c o (I.cne x c e) hc nch ho (I.freeC x c e),hd⟩
 refine⟨I.ok,I.os,hg,⟨λb o e n hb hx=> ?_,λb o e n hb hx=> ?_,λb o e n hx=> ?_,λb o e hx=> ?_,λb xs e=>tups b xs (I.base.tups b xs e),λb o xs e=>frzs b o xs (I.base.frzs b o xs e),λb ps e=> ?_⟩,?_,λx c e=> ?_,?_,λx c e=> ?_,λp hp=> ?_,hok,I.len⟩
 ·exact keep b o (neL b o e) hb (neC b o e hx) (I.base.keep b o e n hb hx) (I.base.free b o e n hx)
 ·obtain⟨sl,e1⟩:=I.base.slot b o e n hb hx
  obtain⟨sl',e2⟩:=slot b _ (neL b o e) hb (neC b o e hx) e1 (I.base.free b o e n hx)
  exact⟨sl',e2⟩
 ·obtain⟨o',e1⟩:=I.base.there b o e hx
  exact free b o' (neC b o e hx) e1 (I.base.free b o e n hx)
 ·obtain⟨o',e1⟩:=I.base.there b o e hx
  exact there b o' (neC b o e hx) e1
 ·obtain⟨m1,e1⟩:=I.base.tbls b ps e
  obtain⟨m2,e2⟩:=tbls b _ e1
  exact⟨m1++m2,by rw[e2,Array.append_assoc]⟩
 ·obtain⟨m,hn,hl⟩:=I.loc
  refine⟨m,ns m hn,λi x v e1 e2 e3=> ?_⟩
  obtain⟨u,r,l⟩:=hl i x v e1 e2 e3
  refine⟨u,r,?_⟩
  rcases l with l | ⟨k,c,e,z⟩
  ·exact .inl l
  ·exact .inr ⟨k,c,e,cellK x c e _ z⟩
 ·obtain⟨v,z⟩:=I.cell x c e
  exact⟨v,cellK x c e v z⟩
 ·obtain⟨m,⟨o,_,_,ho,_⟩,_⟩:=I.loc
  exact free _ o (λz=>(hch _ z).2.1 rfl) ho I.free
 ·obtain⟨v,o,ho,hd⟩:=I.cell x c e
  exact free c o (λz=>(hch c z).2.2.1 x c e rfl) ho (I.freeC x c e)
 ·obtain⟨e,n,ne,nf,d⟩:=I.pin p hp
  have nch:p.1∉ch:=λz=>(hch p.1 z).2.2.2 p hp rfl
  exact⟨keep p.1 p.2 ne nf nch e n,free p.1 p.2 nch e n,ne,nf,d⟩
end
structure Fly(bad:Addr->Prop)(H:Hp)(h:Heap)(e:Addr)(cls:Value):Prop where
 nb:¬ bad e
 free:H e=none
 ex:∃ (oe:Obj) (vs:Array Value),h.get? e=some oe/\oe.cls=cls/\oe.dict=none/\oe.data=.fields vs/\(vs[1]? =some .none ∨
  ∃ (T:Addr) (oT:Obj) (ts:Array Value),vs[1]? =some (.ref T)/\¬ bad T/\H T=none/\T≠e/\h.get? T=some oT/\oT.data=.fields ts/\ts[3]? =some .none)
theorem Fly.mono{bad bad':Addr->Prop}{H:Hp}{h:Heap}{e:Addr}{cls:Value}(F:Fly bad H h e cls)(k:∀ a,bad' a->bad a):Fly bad' H h e cls:=by
 obtain⟨nb,fr,oe,vs,h1,h2,h3,h4,h5⟩:=F
 refine⟨λz=>nb (k _ z),fr,oe,vs,h1,h2,h3,h4,?_⟩
 rcases h5 with z | ⟨T,oT,ts,a,b,c⟩
 ·exact .inl z
 ·exact .inr ⟨T,oT,ts,a,λz=>b (k _ z),c⟩
section
variable{M:Model}{A:Around}{E:Value->Shared->Prop}{s:Shared}
theorem zs3{base:Heap}{env:Env}{outer:List Env}{L e:Addr}{oe:Obj}{vs:Array Value}{hd:Value}{nx:Bool}{Q:Unit->Shared->Prop}
  (hfr:A.frames=some (env::outer)) (hl:s.heap.FunFrames base (env::outer)) (hf:env.frame=some L) (he:s.heap.get? e=some oe) (hdt:oe.data=.fields vs) (hsz:1<vs.size)
  (h:∀ h' T oT ts,(∀ b o,s.heap.get? b=some o->b≠e->b∉frs (env::outer)->h'.get? b=some o)->(∀ b o,s.heap.get? b=some o->b≠e->∃ sl,h'.get? b=some { o with slots:=sl }) →
   h'.get? e=some (oe.mapFields (·.setIfInBounds 1 (.ref T)))->s.heap.objs.size<=T->h'.get? T=some oT->oT.data=.fields ts->ts[3]? =some (rawInt L)->Q () { s with heap:=h' }) :
  wpAny M A (do let a ← frameOf env;let pl ← entryPlaceOf L nx;let b ← EntryCells.newEntry hd a .none (rawInt L) .none pl;setField (.ref e) 1 b) Q E s:=by
 have hne:e∉(env::outer).filterMap (·.frame):=λz=>by
  obtain⟨_,o,ho,hn⟩:=hl.mem z
  rw[he]at ho;cases ho
  exact hn vs hdt
 refine wpAny_bind (wpAny_frameOf_fun hfr hl hf λh1 hs1=> ?_)
 refine wpAny_bind (wpAny_entryPlaceOf λpl hpl=> ?_)
 unfold EntryCells.newEntry newFields
 refine wpAny_bind (wpAny_newObj_type ?_ (hpl.sizeOk5 _ _ _ _ _))
 have he1:h1.get? e=some oe:=(hs1.2.1 e hne).trans he
 refine wpAny_setField (Heap.get?_push_of_some _ he1) hdt hsz ?_
 have hTe:h1.objs.size≠e:=Nat.ne_of_gt (Heap.lt_size he1)
 have hd3:=Obj.data_mapFields hdt (·.setIfInBounds 1 (Value.ref h1.objs.size))
 have keep:∀ b o,b≠e->h1.get? b=some o->((h1.push { cls:=.type "traceback",dict:=none,data:=.fields ([hd,.ref L,.none,rawInt L,.none]++(if pl.isEmpty then List.replicate 6 Value.none else pl)).toArray }).update e (Obj.mapFields (·.setIfInBounds 1 (Value.ref h1.objs.size)))).get? b=some o:=λb o hb e1=>by
  rw[Heap.get?_update_other _ _ (Ne.symm hb)]
  exact Heap.get?_push_of_some _ e1
 refine h _ h1.objs.size _ _ (λb o e1 hb hnf=>keep b o hb ((hs1.2.1 b hnf).trans e1)) (λb o e1 hb=> ?_) (Heap.get?_update_self _ (Heap.get?_push_of_some _ he1) (Obj.isFreed_of_fields hd3)) (by rw[hs1.1];exact Nat.le_refl _)
  ((Heap.get?_update_other _ _ (Ne.symm hTe)).trans (Heap.get?_push_size _ rfl)) rfl ?_
 ·obtain⟨sl,e2⟩:=hs1.2.2 b o e1
  exact⟨sl,keep b _ hb e2⟩
 ·first | (simp;done) | (rcases hpl with rfl | ⟨_,_,_,_,_,_,_,rfl⟩<;>simp)
structure zaeg(fr:List Addr)(bad:Addr->Prop)(H:Hp)(e:Addr)(cls:Value)(h h':Heap):Prop where
 ch:∃ ch:List Addr,(∀ b∈ch,¬ bad b/\H b=none/\∃ o vs,h.get? b=some o/\o.data=.fields vs)/\(∀ b o,h.get? b=some o->b∉ch->b∉fr->h'.get? b=some o) ∧
  (∀ b o,h.get? b=some o->b∉ch->∃ sl,h'.get? b=some { o with slots:=sl })
 fly:Fly bad H h' e cls
theorem zyc {A2:Around} {E2:Value->Shared->Prop} {base:Heap} {env:Env} {outer:List Env} {L e:Addr} {cls:Value} {bad:Addr->Prop} {H:Hp} {Q:Unit->Shared->Prop}
    (hfr:A.frames=some (env::outer)) (hl:s.heap.FunFrames base (env::outer)) (hf:env.frame=some L) (F:Fly bad H s.heap e cls) (hb:∀ a,s.heap.objs.size<=a->¬ bad a) (hH:∀ a,s.heap.objs.size<=a->H a=none)
    (h:∀ h',zaeg (frs (env::outer)) bad H e cls s.heap h'->Q () { s with heap:=h' }) :
    wpAny M A (noteFrame (.ref e) env) (λ_ s2=>wpAny M A2 (setFlight (.ref e) none) Q E2 s2) E s:=by
  obtain⟨nb,fr,oe,vs,he,hcls,hdict,hd,htb⟩:=F
  have rest:∀ (s1:Shared) (ch:List Addr) (h':Heap) (T:Addr) (oT:Obj) (ts:Array Value) (oe1:Obj),(∀ b o,s.heap.get? b=some o->s1.heap.get? b=some o\/b∈ch)->s1.heap.objs.size=s.heap.objs.size->e∈ch->(∀ b∈ch,¬ bad b/\H b=none/\∃ o vs,s.heap.get? b=some o/\o.data=.fields vs) →
      oe1.cls=cls->oe1.dict=none->oe1.data=.fields vs->1<vs.size →
      (∀ b o,s1.heap.get? b=some o->b≠e->b∉frs (env::outer)->h'.get? b=some o)->(∀ b o,s1.heap.get? b=some o->b≠e->∃ sl,h'.get? b=some { o with slots:=sl }) →
      h'.get? e=some (oe1.mapFields (·.setIfInBounds 1 (.ref T)))->s1.heap.objs.size<=T->h'.get? T=some oT->oT.data=.fields ts->ts[3]? =some (rawInt L)->wpAny M A2 (setFlight (.ref e) none) Q E2 { s with heap:=h' }:=by
    intro s1 ch h' T oT ts oe1 hk1 hsz hech hch hcls1 hdict1 hd1 hv k1 k2 e1 hT e2 hdT h3
    have hT':s.heap.objs.size<=T:=hsz ▸ hT
    have hTe:T≠e:=Ne.symm (zja (Heap.lt_size he) hT')
    have hde:=Obj.data_mapFields hd1 (·.setIfInBounds 1 (Value.ref T))
    unfold setFlight
    refine wpAny_bind (wpAny_field e1 hde (x:=.ref T) (by simp[hv]) ?_)
    rw[if_pos (show(Value.ref T != Value.none)=true from by simp)]
    have hs3:3<ts.size:=(Array.getElem?_eq_some_iff.mp h3).1
    refine wpAny_setField e2 hdT hs3 (h _ ?_)
    have oth:∀ b,b≠T->(h'.update T (Obj.mapFields (·.setIfInBounds 3 ((none:Option Addr).elim Value.none λf=>rawInt f)))).get? b=h'.get? b:=λb hb'=>Heap.get?_update_other _ _ (Ne.symm hb')
    have ltT:∀ b o,s.heap.get? b=some o->b≠T:=λb o eb=>zja (Heap.lt_size eb) hT'
    refine⟨⟨ch,hch,λb o eb hbc hbf=> ?_,λb o eb hbc=> ?_⟩,nb,fr,_,_,(oth e (Ne.symm hTe)).trans e1,(Obj.cls_mapFields _ _).trans hcls1,?_,hde,.inr ⟨T,_,_,by simp[hv],hb T hT',hH T hT',hTe,Heap.get?_update_self _ e2 (Obj.isFreed_of_fields (Obj.data_mapFields hdT _)),Obj.data_mapFields hdT _,by simp[hs3]⟩⟩
    · rw[oth b (ltT b o eb)]
      rcases hk1 b o eb with z | z
      ·exact k1 b o z (λz'=>hbc (z' ▸ hech)) hbf
      ·exact absurd z hbc
    · rw[oth b (ltT b o eb)]
      rcases hk1 b o eb with z | z
      ·exact k2 b o z (λz'=>hbc (z' ▸ hech))
      ·exact absurd z hbc
    · obtain⟨c1,c2,c3,c4⟩:=oe1
      dsimp only at hd1
      subst hd1
      exact hdict1
  unfold noteFrame
  simp only[hf]
  rcases htb with h1 | ⟨T0,oT0,ts0,h1,nbT,frT,neT,eT,dT,h3⟩
  · have hv:1<vs.size:=(Array.getElem?_eq_some_iff.mp h1).1
    refine wpAny_bind (wpAny_field he hd h1 ?_)
    rw[if_neg (by decide)]
    refine zs3 hfr hl hf he hd hv λh' T oT ts k1 k2 e1 hT e2 hdT h3=> ?_
    exact rest s [e] h' T oT ts oe (λb o eb=>.inl eb) rfl (by simp) (λb hb'=>by rw[List.mem_singleton]at hb';subst hb';exact⟨nb,fr,oe,vs,he,hd⟩) hcls hdict hd hv k1 k2 e1 hT e2 hdT h3
  · have hv:1<vs.size:=(Array.getElem?_eq_some_iff.mp h1).1
    refine wpAny_bind (wpAny_field he hd h1 ?_)
    rw[if_pos (show(Value.ref T0 != Value.none)=true from by simp)]
    refine wpAny_bind (wpAny_field eT dT h3 ?_)
    rw[if_neg (show ¬ ((Value.none == rawInt L)=true)from by simp[rawInt])]
    refine wpAny_bind (wpAny_setField eT dT (Array.getElem?_eq_some_iff.mp h3).1 ?_)
    have oth:∀ b,b≠T0->(s.heap.update T0 (Obj.mapFields (·.setIfInBounds 3 Value.none))).get? b=s.heap.get? b:=λb hb'=>Heap.get?_update_other _ _ (Ne.symm hb')
    have nf:∀ b o,s.heap.get? b=some o->(∀ vs,o.data≠.fields vs)->b≠T0:=λb o eb hn z=>by rw[z,eT]at eb;cases eb;exact hn ts0 dT
    refine zs3 hfr (hl.of_keeps λb o eb hn=>⟨o,(oth b (nf b o eb hn)).trans eb,rfl⟩) hf ((oth e (Ne.symm neT)).trans he) hd hv λh' T oT ts k1 k2 e1 hT e2 hdT h3'=> ?_
    exact rest { s with heap:=s.heap.update T0 (Obj.mapFields (·.setIfInBounds 3 Value.none)) } [e,T0] h' T oT ts oe
      (λb o eb=>by
        by_cases z:b=T0
        ·exact .inr (by simp[z])
        ·exact .inl ((oth b z).trans eb))
      (Heap.size_after_update ..) (by simp)
      (λb hb'=>by
        rcases List.mem_cons.mp hb' with z | z
        ·subst z;exact⟨nb,fr,oe,vs,he,hd⟩
        ·rw[List.mem_singleton]at z;subst z;exact⟨nbT,frT,oT0,ts0,eT,dT⟩)
      hcls hdict hd hv k1 k2 e1 hT e2 hdT h3'
end
def Cx.bad(X:Cx)(pins:List (Addr × Obj)):Addr->Prop:=λa=>X.s₀.heap.get? a≠none\/∃ p∈X.pn++pins,p.1=a
structure XOk(X:Cx)(E:St->XK):Prop where
 po:PassesOwn (model X.prog X.w) X.A X.env X.xe
 ex:X.ex=[]
 calm:X.calm=true
 go:∀ (pins:List (Addr × Obj)) (σ:St) (H:Hp) (s:Shared) (e:Addr) (cls:Value),Inv X pins σ H s->Fly (X.bad pins) H s.heap e cls->E σ cls none H->X.xe (.ref e) s
section
variable{X:Cx}{pins:List (Addr × Obj)}{σ:St}{H:Hp}{s:Shared}
theorem Inv.notbad(I:Inv X pins σ H s)(hx:X.ex=[]){a:Addr}(h:s.heap.get? a=none):¬ X.bad pins a:=λz=>by
  rcases z with z | ⟨p,hp,rfl⟩
  · cases q:X.s₀.heap.get? a with
    | none=>exact z q
    | some o =>
      obtain⟨o',e⟩:=I.base.there a o q (by rw[hx];simp)
      rw[h]at e;cases e
  · have:=(I.pin p hp).1
    rw[h]at this;cases this
theorem zyd{h:Heap}{a:Addr}(z:h.objs.size<=a):h.get? a=none:=by
 cases q:h.get? a with
 | none=>rfl
 | some o=>exact absurd (Nat.lt_of_lt_of_le (Heap.lt_size q) z) (Nat.lt_irrefl _)
theorem Inv.noted{e:Addr}{cls:Value}{h':Heap}(I:Inv X pins σ H s)(N:zaeg (frs X.stack) (X.bad pins) H e cls s.heap h'):Inv X pins σ H { s with heap:=h' }:=by
 obtain⟨⟨ch,hch,k1,k2⟩,_⟩:=N
 obtain⟨mL,⟨oL,esL,epL,hoL,dL,rL⟩,_⟩:=id I.loc
 have chne:∀ b∈ch,∀ o,s.heap.get? b=some o->∃ vs,o.data=.fields vs:=λb hb o eb=>by
  obtain⟨_,_,o',vs,e',d⟩:=hch b hb
  rw[eb]at e';cases e'
  exact⟨vs,d⟩
 have hL:X.env.locals∉ch:=λz=>by
  obtain⟨vs,d⟩:=chne _ z _ hoL
  rw[dL]at d;cases d
 refine I.stepN (g':=s.gens) (t':=s.toks) (d':=s.drawn) (ch:=ch) (λb hb=>⟨.inr ?_,λz=>hL (z ▸ hb),λx c ec z=> ?_,λp hp z=>(hch b hb).1 (.inr ⟨p,hp,z⟩)⟩)
  (λb o hbL hbf hbc eb _=>k1 b o eb hbc λz=>(List.mem_cons.mp (I.stkSub b z)).elim hbL hbf) (λb o _ _ hbc eb _=>k2 b o eb hbc) (λ_ _ _ _ n=>n) (λb o hbc eb=> ?_) (λ_ _ q=>q) (λ_ _ _ q=>q) (λb ps q=>⟨#[],by rw[q];simp⟩) (λm hm=> ?_) (λb o eb=> ?_) I.bare
 ·cases q:X.s₀.heap.get? b with
  | none=>rfl
  | some o=>exact absurd (.inl (by rw[q];simp)) (hch b hb).1
 ·obtain⟨v,oc,hoc,hd⟩:=I.cell x c ec
  obtain⟨vs,d⟩:=chne c (z ▸ hb) oc hoc
  rw[hd]at d;cases d
 ·obtain⟨sl,q⟩:=k2 b o eb hbc
  exact⟨_,q⟩
 ·obtain⟨o',es',ep',ho',r'⟩:=hm
  rw[hoL]at ho';cases ho'
  obtain⟨sl,q⟩:=k2 _ _ hoL hL
  exact⟨_,es',ep',q,r'⟩
 ·refine(I.hok b o eb).stay (λc u hc q=>k1 c u q ?_ ?_) (λ_ q=>q) λ_ _ q=>q
  ·intro z
   have fr:=(hch c z).2.1
   rcases hc with rfl | hc
   ·rw[eb]at fr;cases fr
   ·rw[hc]at fr;cases fr
  ·intro z
   have fr:=I.stkFree c z
   rcases hc with rfl | hc
   ·rw[eb]at fr;cases fr
   ·rw[hc]at fr;cases fr
def cxE(P:Program)(w:World):CXT:=λouter H s E e s'=>∃ (ea:Addr) (cls:Value) (H':Hp),e=.ref ea/\s'.os=s.os/\AllBare s'.gens/\Un (frs outer) [] H H' s.heap s'.heap/\HOk P w H' s'.heap/\Fly (λa=>s.heap.get? a≠none) H' s'.heap ea cls/\E cls none H'
theorem zadk{P:Program}{w:World}{outer:List Env}{H:Hp}{s:Shared}{e:Value}{s':Shared}(h:cxE P w outer H s (λ_ _ _=>False) e s'):False:=by
 obtain⟨_,_,_,_,_,_,_,_,_,f⟩:=h
 exact f
theorem XOk.passes{E:St->XK}(x:XOk X E):ziu (cxE X.prog X.w) X E:=λpins σ H s e s' I h=>by
  obtain⟨ea,cls,H',rfl,os,bare,un,hok,F,q⟩:=h
  refine x.go pins σ H' s' ea cls (I.call' (ch:=[]) os un hok bare λb z=>absurd z (by simp)) (F.mono λa z=> ?_) q
  rcases z with z | ⟨p,hp,rfl⟩
  · cases q0:X.s₀.heap.get? a with
    | none=>exact absurd q0 z
    | some o =>
      obtain⟨o',e⟩:=I.base.there a o q0 (by rw[x.ex];simp)
      rw[e];simp
  ·rw[(I.pin p hp).1];simp
theorem ztn{P:Program}{w:World}:ziu (cxE P w) X (λ_=>E0):=λ_ _ _ _ _ _ _ h=>(zadk h).elim
end
theorem zba{P:Program}{w:World}{K:PySem.W.Frag}{mg:Str->Option Value}{base:Heap}{N:List Str}{qual:Str}{scope:Scope}{f:Addr}{cd:Value}{A:Around}{outer:List Env}{s:Shared}{H:Hp}{E:XK} :
  XOk (cxOf (cxE P w) P w K mg base N qual scope f cd A outer s H E) (λ_=>E) where
 po:=PassesOwn.leaving
 ex:=rfl
 calm:=rfl
 go:=λpins σ H' s' e cls I F q=>by
  have hfr:(A.deeper (envOfC qual scope s.heap.objs.size f cd)).frames=some (envOfC qual scope s.heap.objs.size f cd::outer):=I.ok.frames
  show wpAny _ _ (leaving _ _) _ _ _
  unfold leaving
  refine wpAny_bind (zyc hfr I.stack rfl F (λa z=>I.notbad rfl (zyd z)) (λa z=>I.hok.fresh z) λh' N=> ?_)
  have I':=I.noted N
  exact⟨e,cls,H',rfl,I'.os,I'.bare,I'.base,I'.hok,N.fly.mono λa z=>.inl z,q⟩
structure Exc(K:PySem.W.Frag)(C:Addr):Prop where
 ex:PySem.W.excIn K C [.type "ValueError",.type "Exception",.type "BaseException",.type "object"] "ValueError.__new__"=true
theorem Exc.obj{K:PySem.W.Frag}{C:Addr}{h:Heap}(x:Exc K C)(X:K.In h):∃ (tl:List Value) (N:Addr) (nm q:Str) (bs:List Value) (hdct:Bool) (sn:List Str) (sub:List Value) (ab:Bool) (col:Option Bool) (dd:Option Addr) (k0 k1 k2 k3 k5:Option Value) (mN:Str->Option Value),
  h.get? C=some (excClassObj nm q C N bs tl hdct sn sub ab col dd k0 k1 k2 k3 k5 "ValueError.__new__")/\h.Ns N mN/\mN "__init__"=none/\OwnTail h [.type "ValueError",.type "Exception",.type "BaseException",.type "object"] tl:=by
 have q:=x.ex
 unfold PySem.W.excIn at q
 split at q
 ·rename_i dd cd sl ho
  split at q
  ·rename_i C' bm k0 k1 k2 k3 n k5 hm hs
   simp only[Bool.and_eq_true,beq_iff_eq,Bool.not_eq_true']at q
   obtain⟨⟨⟨⟨⟨rfl,rfl⟩,hdel⟩,ht⟩,hok⟩,hni⟩:=q
   obtain⟨nm,bs,mro,ns,qn,hd,sn,sub,ab,col,del⟩:=cd
   dsimp only at hm hdel hok hni
   subst hm hdel
   obtain⟨l⟩:=sl
   simp only at hs
   subst hs
   exact⟨bm,ns,nm,qn,bs,hd,sn,sub,ab,col,dd,k0,k1,k2,k3,k5,_,X _ _ ho,.of_isNs (PySem.W.isNs_of_in X hok),PySem.W.nsMap_none_of_in X hok hni,PySem.W.tail_of_in X ht⟩
  ·cases q
 ·cases q
def zqo(C:Addr)(E:St->XK)(t:TA):TS:=λ_ σ H=>t σ H λvs H1=>vs.length<=sizeLine/\E σ (.ref C) none H1
section
variable{X:Cx}{E:St->XK}{C:Addr}{x:Str}{np cpos pos:Pos}{e:Expr}{es:List Expr}{t:TA}
theorem zlw(hx:XOk X E)(c:Exc X.K C)(hg:Gl X x)(hm:X.mg x=some (.ref C))(ha:PA X (e::es) t)(hdb:(x ==("__debug__":Str))=false:=by decide)
  (he:starEach (e::es) X.env=(false,eval e X.env)::starEach es X.env:=by rfl) (hpl:(backTo cpos (starEach es X.env)).any (·.1)=false:=by rfl) :
  PS X (.Raise (some (.Call (.Name x np) (e::es) [] cpos)) none pos) (zqo C E t):=by
 intro pins s σ H D I h
 obtain⟨tl,N,nm,q,bs,hdct,sn,sub,ab,col,dd,k0,k1,k2,k3,k5,mN,hC,hN,hni,T⟩:=c.obj I.mod.kin
 have hpl2:(backTo cpos (starEach (e::es) X.env)).any (·.1)=false:=by
  rw[he]
  show(false || (backTo cpos (starEach es X.env)).any (·.1))=false
  rw[hpl];rfl
 refine wpAny_Raise_call_subT (C:=C) (nm:=nm) (q:=q) (N:=N) (bs:=bs) (bm:=tl) (hdct:=hdct) (sn:=sn) (sub:=sub) (ab:=ab) (col:=col) (dd:=dd) (k0:=k0) (k1:=k1) (k2:=k2) (k3:=k3) (k5:=k5)
  PySem.F.excBase_ValueError (mN:=mN) (T.hasType PySem.F.excBase_ValueError.hasBase) (I.ok.hd hx.calm) hpl2 hni (zqd I hg hm ⟨rfl,?_⟩ hdb)
 have hq:=ha cpos pins s σ H _ I h
 rw[he]at hq ⊢
 refine Calls.evalArgs_plain (thn hq λus s1 ⟨vs,H1,I1,r,hz,q1⟩=>⟨rfl,?_,I1.bk _ _ hC,hN.keeps I1.bk,T.keeps I1.bk,λh' ea hM=> ?_⟩)
 ·show us.length<=_
  rw[<-r.length];exact hz
 ·have I2:Inv X pins σ H1 { s1 with heap:=h' }:=I1.kept (t':=s1.toks) hM.keeps
  obtain⟨tt,h1,h2,h3⟩:=hM.there
  refine hx.go pins σ H1 _ ea (.ref C) I2 ⟨λz=>I1.notbad hx.ex hM.new z,I1.hok.nh hM.new,_,_,h1,rfl,rfl,rfl,.inl rfl⟩ q1
end
end L2
set_option linter.all false
set_option maxHeartbeats 4000000
namespace L2
open PySem PySem.Spec PyProof.Rows
section
variable(P:Program)(w:World)(K:PySem.W.Frag)(mg:Str->Option Value)(base:Heap)
structure Cal(k:Nat)(x:Str)(ps:List Str)(sp:Sp):Prop where
 ex:∃ (f:Addr) (fd:FuncData),FnOk P w K mg base (cxE P w) k f fd ps sp/\mg x=some (.ref f)/\PySem.W.keepIn K (.ref f)=true/\Binds K fd ps []
structure MCal(C:Addr)(k:Nat)(m:Str)(ps:List Str)(sp:Sp):Prop where
 ex:∃ (f:Addr) (fd:FuncData),FnOk P w K mg base (cxE P w) k f fd ps sp/\Meth K C m f/\Binds K fd ps []
structure NCal(C:Addr)(k:Nat)(x:Str)(ps:List Str)(sp:Sp):Prop where
 ex:∃ (f:Addr) (fd:FuncData),FnOk P w K mg base (cxE P w) k f fd ps sp/\Mk K C f/\mg x=some (.ref C)/\Binds K fd ps []
end
section
variable{X:Cx}{E:St->XK}{k:Nat}{x m:Str}{ps:List Str}{sp:Sp}{C:Addr}{p pos apos:Pos}{e o:Expr}{es:List Expr}{ta:TE}{t:TA}
theorem zav(c:Cal X.prog X.w X.K X.mg X.base k x ps sp)(hr:Room k X.A)(hp:ziu (cxE X.prog X.w) X E)(hg:Gl X x)(ha:PA X (e::es) t)(hdb:(x ==("__debug__":Str))=false:=by decide)
  (he:starEach (e::es) X.env=(false,eval e X.env)::starEach es X.env:=by rfl) (hpl:(backTo pos (starEach es X.env)).any (·.1)=false:=by rfl):PE X (.Call (.Name x p) (e::es) [] pos) (zdl sp [] E t):=by
 obtain⟨f,fd,F,hm,hk,hb⟩:=c.ex
 exact zad3 F hr hg hm hk hb .nil hp ha hdb he hpl
theorem za1{pl:Sem Bool}(he:PE X o ta)(cl:Cls X.K C)(c:MCal X.prog X.w X.K X.mg X.base C k m ps sp)(hr:Room k X.A)(hp:ziu (cxE X.prog X.w) X E)(ha:PA X (e::es) t)
  (hst:starEach (e::es) X.env=(false,eval e X.env)::starEach es X.env:=by rfl) (hpl:(backTo pos (starEach es X.env)).any (·.1)=false:=by rfl)
  (ht:eval (.Call (.Attribute o m apos) (e::es) [] pos) X.env=(do
   let ov ← eval o X.env
   standAt apos.atName
   let (f,first) ← holding [ov] (getMethod ov m pl)
   callWith pos f first (backTo pos (starEach (e::es) X.env)) (backToKw pos (keywordEach [] X.env))):=by rfl):PE X (.Call (.Attribute o m apos) (e::es) [] pos) (zb5 C m sp [] E ta t):=by
 obtain⟨f,fd,F,hm,hb⟩:=c.ex
 exact zad4 he cl hm F hr hb .nil hp ha hst hpl ht
theorem zbz{pl:Sem Bool}(he:PE X o ta)(cl:Cls X.K C)(c:MCal X.prog X.w X.K X.mg X.base C k m ps sp)(hr:Room k X.A)(hp:ziu (cxE X.prog X.w) X E)
  (ht:eval (.Call (.Attribute o m apos) [] [] pos) X.env=(do
   let ov ← eval o X.env
   standAt apos.atName
   let (f,first) ← holding [ov] (getMethod ov m pl)
   callWith pos f first (backTo pos (starEach [] X.env)) (backToKw pos (keywordEach [] X.env))):=by rfl):PE X (.Call (.Attribute o m apos) [] [] pos) (zb5 C m sp [] E ta tNil):=by
 obtain⟨f,fd,F,hm,hb⟩:=c.ex
 exact zaby he cl hm F hr hb .nil hp ht
theorem zp8(c:NCal X.prog X.w X.K X.mg X.base C k x ps sp)(hr:Room (k+1) X.A)(hp:ziu (cxE X.prog X.w) X E)(hg:Gl X x)(ha:PA X (e::es) t)(hdb:(x ==("__debug__":Str))=false:=by decide)
  (he:starEach (e::es) X.env=(false,eval e X.env)::starEach es X.env:=by rfl) (hpl:(backTo pos (starEach es X.env)).any (·.1)=false:=by rfl):PE X (.Call (.Name x p) (e::es) [] pos) (zws C sp [] E t):=by
 obtain⟨f,fd,F,M,hm,hb⟩:=c.ex
 exact zad5 M F hr hg hm hb .nil hp ha hdb he hpl
end
theorem Fun.okE{P:Program}{w:World}{K:PySem.W.Frag}{mg:Str->Option Value}{base:Heap}{x qual:Str}{st:Stmt}{f:Addr}{fd:FuncData}{N ps:List Str}{k:Nat}{sp:Sp}(F:Fun K x qual st f fd)(S:zaq N ps (zab st))(len:∀ vs H Q E,sp vs H Q E->vs.length=ps.length)
  (hbody:∀ (cdv:Value) (A:Around) (outer:List Env) (s:Shared) (H:Hp) (vs:List V) (Q:VK) (E:XK),Room k (A.deeper (envOfC qual (zab st) s.heap.objs.size f cdv))->sp vs H Q E →
   ∃ t,PSs (cxOf (cxE P w) P w K mg base N qual (zab st) f cdv A outer s H E) (zap st) t/\t { nx:=λ_ H'=>Q .non H',rt:=Q } (zbu N vs) H):FnOk P w K mg base (cxE P w) (k+1) f fd ps sp:=by
 obtain⟨oc,od,kV,doc,pm,an,cdv,ct,osl,rfl,l,c⟩:=F.ex
 exact zagg l c S len λA outer s H vs Q E hr h=>hbody cdv A outer s H vs Q E hr h
def GV(mg:Str->Option Value)(x:Str)(v:V):Prop:=∃ u,mg x=some u/\RelV v u
theorem zu6{X:Cx}{x:Str}{v:V}{pos:Pos}(g:GV X.mg x v)(hg:Gl X x)(hd:(x ==("__debug__":Str))=false:=by decide):PE X (.Name x pos) (tC v):=by
 obtain⟨u,hm,r⟩:=g
 exact zady hg hm r hd
theorem zs4{α :Type}(p: α ->Bool):∀ (l:List α) (i:Nat),(∀ x,l[i]? =some x->p x=false)->(l.eraseIdx i).find? p=l.find? p
  | [],_,_=>rfl
  | x::r,0,h=>by
    have:p x=false:=h x rfl
    simp[List.eraseIdx,List.find?,this]
  | x::r,i+1,h=>by
    rw[List.eraseIdx_cons_succ]
    simp only[List.find?_cons]
    rw[zs4 p r i λy hy=>h y (by simpa using hy)]
theorem zab9{v:Value}{x y:Str}(h:v.isStr x=true)(hxy:y≠x):v.isStr y=false:=by
  cases v with
  | str z t =>
    have e:z=x:=by simpa [Value.isStr]using h
    subst e
    simp only[Value.isStr]
    exact beq_eq_false_iff_ne.mpr (Ne.symm hxy)
  | _=>simp[Value.isStr]at h
theorem zagw {M:Model} {A:Around} {E:Value->Shared->Prop} {s:Shared} {a:Addr} {m:Str->Option Value} {name:Str} {Q:Bool->Shared->Prop} (hn:s.heap.Ns a m)
    (hQ:∀ h' m',h'.Ns a m'->(∀ y,y≠name->m' y=m y)->Heap.SameBut a s.heap h'->Q (m name).isSome { s with heap:=h' }):wpAny M A (nsDel a name) Q E s:=by
  obtain⟨o,es,ep,ho,hd,hk,hm⟩:=id hn
  have hno:es.any (·.refKey)=false:=by
    rw[Array.any_eq_false'];intro e' he';obtain⟨n',t',h'⟩:=hk e' he';simp[DictEntry.refKey,h']
  have hiff:(m name).isSome=es.any (·.key.isStr name):=by
    rw[<-hm name]
    simp only[nsFind,findBy,Option.isSome_map]
    obtain⟨l⟩:=es
    rw[Bool.eq_iff_iff]
    simp[List.find?_isSome]
  have hhas:nsHas name o=pure (es.any (·.key.isStr name)):=by
    rw[nsHas_eq];unfold nsHasByArray;rw[hd]
    show(if(es.any λx=>x.key.isStr name)=true then _ else _)=_
    generalize (es.any λx=>x.key.isStr name)=b'
    cases b'<;>simp[hno]
  unfold nsDel
  refine wpAny_bind (wpAny_loadPart ho ?_)
  rw[hhas]
  refine wpAny_bind (wpAny_pure ?_)
  rw[<-hiff]
  cases hmn:(m name).isSome
  · have z:=hQ s.heap m hn (λ_ _=>rfl) (.refl ..)
    rw[hmn]at z
    exact wpAny_pure z
  · refine wpAny_bind (wpAny_updatePart ho (wpAny_pure ?_))
    have key:∃ m',(s.heap.update a (Obj.dropName name)).Ns a m'/\∀ y,y≠name->m' y=m y:=by
      obtain⟨cl,d,dt,sl⟩:=o
      obtain rfl:dt=.dict es ep:=hd
      cases hi:es.findIdx? (·.key.isStr name)with
      | some i =>
        refine⟨_,⟨_,_,ep+1,Heap.get?_update_self _ ho (by simp only[Obj.dropName_eq,Obj.dropNameByArray,hi]<;>rfl),(by simp only[Obj.dropName_eq,Obj.dropNameByArray,hi]<;>rfl),hk.erase i,λ_=>rfl⟩,λy hy=> ?_⟩
        rw[<-hm y]
        unfold nsFind findBy
        obtain⟨l⟩:=es
        congr 1
        have hi':l.findIdx? (·.key.isStr name)=some i:=by simpa using hi
        obtain⟨hlt,hp,_⟩:=List.findIdx?_eq_some_iff_getElem.mp hi'
        show Array.find? _ (Array.eraseIdxIfInBounds ⟨l⟩ i)=_
        rw[<-Array.find?_toList,<-Array.find?_toList]
        have:(Array.eraseIdxIfInBounds ⟨l⟩ i).toList=l.eraseIdx i:=by
          rw[Array.eraseIdxIfInBounds_eq]
          split
          ·simp
          ·rename_i hz;exact absurd hlt (by simpa using hz)
        rw[this]
        refine zs4 _ l i λx hx=> ?_
        rw[List.getElem?_eq_getElem hlt]at hx
        cases hx
        exact zab9 hp hy
      | none=>exact⟨m,⟨_,_,ep,Heap.get?_update_self _ ho (by simp only[Obj.dropName_eq,Obj.dropNameByArray,hi]<;>rfl),(by simp only[Obj.dropName_eq,Obj.dropNameByArray,hi]<;>rfl),hk,hm⟩,λ_ _=>rfl⟩
    obtain⟨m',hm',hy⟩:=key
    have z:=hQ _ m' hm' hy (Heap.SameBut.update ..)
    rw[hmn]at z
    exact z
theorem zlx{X:Cx}{pins:List (Addr × Obj)}{σ:St}{H:Hp}{s:Shared}{A:Around}{E:Value->Shared->Prop}{i:Nat}{n:Str}{pos:Pos}{Q:Unit->Shared->Prop}(I:Inv X pins σ H s)(hN:X.N.Nodup)(hi:X.N[i]? =some n)(hl:X.env.scope.names.lookup n=some .local)
  (h:∀ s',Inv X pins (σ.set i none) H s'->Q () s'):wpAny (model X.prog X.w) A (do bindName X.env n .none;unbindBehindTheSuite X.env n pos) Q E s:=by
 have hp:(X.env.scope.kind == .class || (X.env.scope.kind == .module && X.env.locals != X.env.globals))=false:=by rw[I.ok.kind];rfl
 have hk:X.env.kindOf n=some .local:=hl
 have hiσ:i<σ.length:=by rw[I.len];exact(List.getElem?_eq_some_iff.mp hi).1
 refine wpAny_bind (wpAny_bindName (zp4 I hN hi (.inl hl) (show RelV .non Value.none from rfl) (λs1 I1=> ?_) (.inr hl)))
 unfold unbindBehindTheSuite
 refine wpAny_onRaise ?_
 unfold unbindName
 refine wpAny_bind (wpAny_point (wpAny_bind ?_))
 unfold deleteName
 simp only[hk,hp]
 rw[if_neg (by decide)]
 obtain⟨m,hn,hloc⟩:=id I1.loc
 have hmn:∃ u,m n=some u:=by
  obtain⟨u,_,l⟩:=hloc i n .non hi (by rw[List.getElem?_set_self hiσ]) (.inl hl)
  rcases l with⟨_,e⟩ | ⟨z,_⟩
  ·exact⟨u,e⟩
  ·rw[hk]at z;rcases z with z | z<;>cases z
 refine wpAny_bind (zagw hn λh' m' hn' hy hs=> ?_)
 obtain⟨u,hu⟩:=hmn
 rw[hu]
 simp only[Option.isSome_some,Bool.not_true,Bool.false_eq_true,if_false]
 refine wpAny_pure (wpAny_point (h _ ?_))
 have nL:∀ b o,X.s₀.heap.get? b=some o->b≠X.env.locals:=λb o e=>zja (Heap.lt_size e) I1.ok.above
 refine⟨I1.ok,I1.os,I1.bare,⟨λb o e n' hb hx=>(hs.2 b (nL b o e)).trans (I1.base.keep b o e n' hb hx),λb o e n' hb hx=> ?_,I1.base.free,λb o e hx=> ?_,I1.base.tups,I1.base.frzs,I1.base.tbls⟩,⟨m',hn',λj y v e1 e2 e3=> ?_⟩,λx c e=> ?_,I1.free,I1.freeC,λp hp'=> ?_,λb o e=> ?_,?_⟩
 ·obtain⟨sl,q⟩:=I1.base.slot b o e n' hb hx
  exact⟨sl,(hs.2 b (nL b o e)).trans q⟩
 ·obtain⟨o',q⟩:=I1.base.there b o e hx
  exact⟨o',(hs.2 b (nL b o e)).trans q⟩
 ·have hj:j≠i:=λz=>by
   subst z
   rw[List.getElem?_set_self hiσ]at e2
   cases e2
  rw[List.getElem?_set_ne (Ne.symm hj)]at e2
  obtain⟨u',r',l⟩:=hloc j y v e1 (by rw[List.getElem?_set_ne (Ne.symm hj)];exact e2) e3
  refine⟨u',r',?_⟩
  rcases l with⟨z,e⟩ | ⟨z,c,e,q⟩
  ·exact .inl ⟨z,by rw[hy y λz=>hj (ztd hN e1 (z ▸ hi))];exact e⟩
  ·exact .inr ⟨z,c,e,q.sameBut hs (I1.cne y c e)⟩
 ·obtain⟨v,q⟩:=I1.cell x c e
  exact⟨v,q.sameBut hs (I1.cne x c e)⟩
 ·obtain⟨q1,q2,q3,q4⟩:=I1.pin p hp'
  exact⟨(hs.2 _ q3).trans q1,q2,q3,q4⟩
 ·refine(I1.hok b o e).stay (λc u' hc q=>(hs.2 c ?_).trans q) (λ_ q=>q) λ_ _ q=>q
  intro z
  have fr:=I1.free
  rw[<-z]at fr
  rcases hc with rfl | hc
  ·rw[e]at fr;cases fr
  ·rw[hc]at fr;cases fr
 ·rw[List.length_set];exact I.len
abbrev Cx.tri(X:Cx)(pn:List (Addr × Obj))(xe:Value->Shared->Prop):Cx:={ X with pn:=pn,xe:=xe }
abbrev Cx.hand(X:Cx)(e:Addr):Cx:={ X with A:=X.A.mark (some (.ref e)),calm:=false,xe:=λ_ _=>False }
section
variable{X:Cx}{pins:List (Addr × Obj)}{σ:St}{H:Hp}{s:Shared}
theorem Cx.Ok.tri{pn:List (Addr × Obj)}{xe:Value->Shared->Prop}(ok:X.Ok):(X.tri pn xe).Ok :=
 ⟨ok.mod,ok.kind,ok.glob,ok.blt,ok.above,ok.inj,ok.has,ok.cab,ok.hd,ok.frames,ok.stk,ok.exf,ok.bs,ok.bsz,ok.noex,ok.exfs,ok.funs,ok.frf⟩
theorem Inv.tri{xe:Value->Shared->Prop}(I:Inv X pins σ H s):Inv (X.tri (X.pn++pins) xe) [] σ H s :=
 ⟨I.ok.tri,I.os,I.bare,I.base,I.loc,I.cell,I.free,I.freeC,λp hp=>I.pin p (by simpa using hp),I.hok,I.len⟩
theorem Cx.Ok.untri{pn:List (Addr × Obj)}{xe:Value->Shared->Prop}(ok:(X.tri pn xe).Ok):X.Ok :=
 ⟨ok.mod,ok.kind,ok.glob,ok.blt,ok.above,ok.inj,ok.has,ok.cab,ok.hd,ok.frames,ok.stk,ok.exf,ok.bs,ok.bsz,ok.noex,ok.exfs,ok.funs,ok.frf⟩
theorem Inv.untri{pl:List (Addr × Obj)}{xe:Value->Shared->Prop}(I:Inv (X.tri (X.pn++pins) xe) pl σ H s):Inv X pins σ H s :=
 ⟨I.ok.untri,I.os,I.bare,I.base,I.loc,I.cell,I.free,I.freeC,λp hp=>I.pin p (List.mem_append_left _ hp),I.hok,I.len⟩
theorem Cx.Ok.hand{e:Addr}(ok:X.Ok):(X.hand e).Ok :=
 ⟨ok.mod,ok.kind,ok.glob,ok.blt,ok.above,ok.inj,ok.has,ok.cab,(λz=>nomatch z),ok.frames,ok.stk,ok.exf,ok.bs,ok.bsz,ok.noex,ok.exfs,ok.funs,ok.frf⟩
theorem Inv.hand{e:Addr}(I:Inv X pins σ H s):Inv (X.hand e) pins σ H s:=⟨I.ok.hand,I.os,I.bare,I.base,I.loc,I.cell,I.free,I.freeC,I.pin,I.hok,I.len⟩
theorem Inv.unhand{e:Addr}(ok:X.Ok)(I:Inv (X.hand e) pins σ H s):Inv X pins σ H s:=⟨ok,I.os,I.bare,I.base,I.loc,I.cell,I.free,I.freeC,I.pin,I.hok,I.len⟩
end
def zru(e:Addr)(cls:Value):Heap->Prop:=λh=>∃ oe vs,h.get? e=some oe/\oe.cls=cls/\oe.dict=none/\oe.data=.fields vs
abbrev TH:=Value->Ends->St->Hp->Prop
def zagx:TH:=λ_ _ _ _=>False
def Ends.drop(D:Ends)(i:Nat):Ends:={ nx:=λσ H=>D.nx (σ.set i none) H,rt:=D.rt,bk:=λσ H=>D.bk (σ.set i none) H,ct:=λσ H=>D.ct (σ.set i none) H }
def zye(p:Value->Option Bool)(i:Nat)(ts:TS)(rest:TH):TH:=λcls D σ H =>
 (p cls=some true/\∀ e,H e=none->ts (D.drop i) (σ.set i (some (.ref e))) (upd H e (.ext (zru e cls))))\/(p cls=some false/\rest cls D σ H)
def PH (X:Cx) (hs:List ExceptHandler) (th:TH):Prop :=
  ∀ (pins:List (Addr × Obj)) (s:Shared) (σ:St) (H:Hp) (D:Ends) (e:Addr) (cls:Value),X.ex=[]->Inv X pins σ H s->Fly (X.bad pins) H s.heap e cls->th cls D σ H →
    wpAny (model X.prog X.w) X.A (handleBy (.ref e) X.env hs) (SP X pins D) X.xe s
def PX (X:Cx) (t:Expr) (p:Value->Option Bool):Prop :=
  ∀ (pins:List (Addr × Obj)) (s:Shared) (σ:St) (H:Hp) (e:Addr) (cls:Value) (b:Bool) (Q:Bool->Shared->Prop) (E:Value->Shared->Prop),Inv X pins σ H s->Fly (X.bad pins) H s.heap e cls->p cls=some b →
    (∀ s',Inv X pins σ H s'->Fly (X.bad pins) H s'.heap e cls->Q b s')->wpAny (model X.prog X.w) (X.A.mark (some (.ref e))) (eval t X.env) (λc s1=>wpAny (model X.prog X.w) (X.A.mark (some (.ref e))) (excMatches (.ref e) c) Q E s1) E s
def tTry(tb:(St->XK)->TS)(th:TH):TS:=λD σ H=>tb (λσ' cls _ H'=>th cls D σ' H') D σ H
section
variable{X:Cx}{hs:List ExceptHandler}{h₀:ExceptHandler}{th:TH}{body:List Stmt}{tb:(St->XK)->TS}{pos:Pos}
theorem zagy:PH X [] zagx:=λ_ _ _ _ _ _ _ _ _ _ h=>h.elim
theorem zagz{bad:Addr->Prop}{H:Hp}{h:Heap}{e:Addr}{cls:Value}{M:Model}(F:Fly bad H h e cls):PySem.W.Looks M h (typeOf (.ref e)) cls:=by
 obtain⟨_,_,oe,vs,h1,h2,_⟩:=F
 subst h2
 exact(PySem.W.Looks.ld h1).andThen .now
theorem zaeh{x:Str}{np:Pos}{C:Value}(hg:Gl X x)(hm:X.mg x=some C)(hd:(x ==("__debug__":Str))=false:=by decide):PX X (.Name x np) (λcls=>PySem.W.exmOne X.K cls C):=by
 intro pins s σ H e cls b Q E I F hp h
 have I2:Inv (X.hand e) pins σ H s:=I.hand
 refine zqd (X:=X.hand e) I2 hg hm ?_ hd
 exact PySem.W.exm_one I.kIn (zagz F) hp _ _ _ s (λ_ _ z=>z) (h s I F)
theorem zaca{M:Model}{A:Around}{E:Value->Shared->Prop}{s:Shared}{bad:Addr->Prop}{H:Hp}{fr:List Addr}{e:Addr}{cls:Value}{Q:Unit->Shared->Prop}(F:Fly bad H s.heap e cls)
  (h:∀ h',zaeg fr bad H e cls s.heap h'->Q () { s with heap:=h' }):wpAny M A (setFlight (.ref e) none) Q E s:=by
 have F0:=F
 obtain⟨nb,frr,oe,vs,he,hcls,hdict,hd,htb⟩:=F
 unfold setFlight
 rcases htb with h1 | ⟨T,oT,ts,h1,nbT,frT,neT,eT,dT,h3⟩
 ·refine wpAny_bind (wpAny_field he hd h1 ?_)
  rw[if_neg (by decide)]
  exact wpAny_pure (h s.heap ⟨⟨[],(λb hb=>nomatch hb),λb o eb _ _=>eb,λb o eb _=>⟨o.slots,eb⟩⟩,F0⟩)
 ·refine wpAny_bind (wpAny_field he hd h1 ?_)
  rw[if_pos (show(Value.ref T != Value.none)=true from by simp)]
  have hs3:3<ts.size:=(Array.getElem?_eq_some_iff.mp h3).1
  refine wpAny_setField eT dT hs3 (h _ ?_)
  have oth:∀ b,b≠T->(s.heap.update T (Obj.mapFields (·.setIfInBounds 3 ((none:Option Addr).elim Value.none λf=>rawInt f)))).get? b=s.heap.get? b:=λb hb'=>Heap.get?_update_other _ _ (Ne.symm hb')
  refine⟨⟨[T],λb hb=> ?_,λb o eb hb _=>(oth b λz=>hb (by simp[z])).trans eb,λb o eb hb=>⟨o.slots,(oth b λz=>hb (by simp[z])).trans eb⟩⟩,nb,frr,oe,vs,(oth e (Ne.symm neT)).trans he,hcls,hdict,hd,.inr ⟨T,_,_,h1,nbT,frT,neT,Heap.get?_update_self _ eT (Obj.isFreed_of_fields (Obj.data_mapFields dT _)),Obj.data_mapFields dT _,by simp[hs3]⟩⟩
  rw[List.mem_singleton]at hb
  subst hb
  exact⟨nbT,frT,oT,ts,eT,dT⟩
theorem SP.unhand{pins:List (Addr × Obj)}{D:Ends}{e:Addr}{f:Flow}{s:Shared}(ok:X.Ok)(h:SP (X.hand e) pins D f s):SP X pins D f s:=by
 cases f with
 | next=>obtain⟨σ1,H1,I1,q⟩:=h;exact⟨σ1,H1,I1.unhand ok,q⟩
 | brk=>obtain⟨σ1,H1,I1,q⟩:=h;exact⟨σ1,H1,I1.unhand ok,q⟩
 | cont=>obtain⟨σ1,H1,I1,q⟩:=h;exact⟨σ1,H1,I1.unhand ok,q⟩
 | ret u=>obtain⟨v,σ1,H1,I1,r,q⟩:=h;exact⟨v,σ1,H1,I1.unhand ok,r,q⟩
theorem zaan {t:Expr} {n:Str} {i:Nat} {b₀:Stmt} {suite:List Stmt} {hp:Pos} {p:Value->Option Bool} {ts:TS} {rest:List ExceptHandler} {tr:TH} (hN:X.N.Nodup) (hi:X.N[i]? =some n) (hl:X.env.scope.names.lookup n=some .local) (ht:PX X t p)
    (hsu:∀ e,PSs (X.hand e) (b₀::suite) ts) (hr:PH X rest tr):PH X (.ExceptHandler (some t) (some n) (b₀::suite) hp::rest) (zye p i ts tr):=by
  intro pins s σ H D e cls hx I F h
  have hmain:∃ b,p cls=some b/\(b=true->∀ e,H e=none->ts (D.drop i) (σ.set i (some (.ref e))) (upd H e (.ext (zru e cls))))/\(b=false->tr cls D σ H):=by
    rcases h with⟨h1,h2⟩ | ⟨h1,h2⟩
    ·exact⟨true,h1,λ_=>h2,λz=>nomatch z⟩
    ·exact⟨false,h1,(λz=>nomatch z),λ_=>h2⟩
  obtain⟨b,hp',hT,hF⟩:=hmain
  refine wpAny_handleBy_cons (codeAny_handlers_test (ht pins s σ H e cls b _ _ I F hp' λs' I' F'=> ?_)) (by intro z;cases z)
  cases b with
  | false=>exact hr pins s' σ H D e cls hx I' F' (hF rfl)
  | true =>
    refine codeAny_handlers_suite_as (zaca (fr:=frs X.stack) F' λh' N=> ?_)
    have I2:=I'.noted N
    obtain⟨nb,fr,oe,vs,he,hcls,hdict,hd,_⟩:=N.fly
    have I3:Inv X pins σ (upd H e (.ext (zru e cls))) { s' with heap:=h' }:=by
      have hs0:X.s₀.heap.get? e=none:=by
        cases q:X.s₀.heap.get? e with
        | none=>rfl
        | some o=>exact absurd (.inl (by rw[q];simp)) nb
      have ltH:∀ b o,H b=some o->b≠e:=λb o eb z=>by rw[z,fr]at eb;cases eb
      refine⟨I2.ok,I2.os,I2.bare,⟨I2.base.keep,I2.base.slot,λb o eb n' hx'=> ?_,I2.base.there,λb xs eb=> ?_,λb o u eb=> ?_,λb ps eb=> ?_⟩,I2.loc,I2.cell,?_,λx c ec=> ?_,λp hp=> ?_,I2.hok.track fr ?_,I2.len⟩
      ·rw[zag (λz=>by rw[z,hs0]at eb;cases eb)];exact I2.base.free b o eb n' hx'
      ·rw[zag (ltH _ _ (I2.base.tups b xs eb))];exact I2.base.tups b xs eb
      ·rw[zag (ltH _ _ (I2.base.frzs b o u eb))];exact I2.base.frzs b o u eb
      · obtain⟨m,q⟩:=I2.base.tbls b ps eb
        exact⟨m,by rw[zag (ltH _ _ q)];exact q⟩
      · obtain⟨m,⟨oL,es,ep,hoL,dL,_⟩,_⟩:=I2.loc
        rw[zag (λz=>by rw[z]at hoL;rw[show h'.get? e=some oe from he]at hoL;cases hoL;rw[hd]at dL;cases dL)]
        exact I2.free
      · obtain⟨v,oc,hoc,hdc⟩:=I2.cell x c ec
        rw[zag (λz=>by rw[z]at hoc;rw[show h'.get? e=some oe from he]at hoc;cases hoc;rw[hd]at hdc;cases hdc)]
        exact I2.freeC x c ec
      · obtain⟨q1,q2,q3⟩:=I2.pin p hp
        refine⟨q1,?_,q3⟩
        rw[zag (λz=>nb (.inr ⟨p,hp,z⟩))];exact q2
      · refine⟨⟨oe,vs,he,hcls,hdict,hd⟩,⟨oe,he⟩,λh1 h2 hq k=> ?_⟩
        obtain⟨o1,v1,z1,z2⟩:=hq
        exact⟨o1,v1,k _ z1,z2⟩
    refine zp4 I3 hN hi (.inl hl) (show RelV (.ref e) (.ref e)from rfl) (λs4 I4=> ?_) (.inr hl)
    refine wpAny_mono (hsu e pins s4 _ _ (D.drop i) I4.hand (hT rfl e fr)) (λf s5 h5=> ?_) λ_ _ z=>z.elim
    have h6:=h5.unhand I.ok
    show wpAny _ _ (do bindName X.env n .none;unbindBehindTheSuite X.env n hp) _ _ _
    cases f with
    | next =>
      obtain⟨σ1,H1,I1,q⟩:=h6
      exact zlx I1 hN hi hl λs7 I7=>⟨_,H1,I7,q⟩
    | brk =>
      obtain⟨σ1,H1,I1,q⟩:=h6
      exact zlx I1 hN hi hl λs7 I7=>⟨_,H1,I7,q⟩
    | cont =>
      obtain⟨σ1,H1,I1,q⟩:=h6
      exact zlx I1 hN hi hl λs7 I7=>⟨_,H1,I7,q⟩
    | ret u =>
      obtain⟨v,σ1,H1,I1,r,q⟩:=h6
      exact zlx I1 hN hi hl λs7 I7=>⟨v,_,H1,I7,r,q⟩
theorem zag0(hx:X.ex=[])(hcalm:X.calm=true)(hst:X.stack=X.env::X.outer)(hfr:X.env.frame=some X.env.locals)(hb:∀ (E:St->XK) (pn:List (Addr × Obj)) (xe:Value->Shared->Prop),XOk (X.tri pn xe) E->PSs (X.tri pn xe) body (tb E))(hh:PH X (h₀::hs) th) :
    PS X (.Try body (h₀::hs) [] [] pos) (tTry tb th):=by
  intro pins s σ H D I h
  refine wpAny_Try_except ?_
  let xe:Value->Shared->Prop:=λe s₁=>wpAny (model X.prog X.w) X.A (noteFrame e X.env) (λ_ s₂=>wpAny (model X.prog X.w) X.A (setFlight e none) (λ_ s₃=>wpAny (model X.prog X.w) X.A (handleBy e X.env (h₀::hs)) (SP X pins D) X.xe s₃) X.xe s₂) X.xe s₁
  have xok:XOk (X.tri (X.pn++pins) xe) (λσ' cls _ H'=>th cls D σ' H'):=by
    refine⟨PassesOwn.looking,hx,hcalm,λpl σ' H' s' e cls I' F' q=> ?_⟩
    have Iu:=I'.untri
    refine zyc (hst ▸ Iu.ok.frames) (hst ▸ Iu.stack) hfr F' (λa z=>I'.notbad hx (zyd z)) (λa z=>I'.hok.fresh z) λh' N=> ?_
    rw[<-hst]at N
    have I2:Inv (X.tri (X.pn++pins) xe) pl σ' H' { s' with heap:=h' }:=I'.noted N
    exact hh pins _ σ' H' D e cls hx I2.untri (N.fly.mono λa z=>by
      rcases z with z | ⟨p,hp,z⟩
      ·exact .inl z
      ·exact .inr ⟨p,List.mem_append_left _ hp,z⟩) q
  refine wpAny_mono (hb _ _ xe xok [] s σ H D I.tri h) (λf s1 hs1=> ?_) λ_ _ z=>z
  cases f with
  | next =>
    obtain⟨σ1,H1,I1,q⟩:=hs1
    exact wpAny_execs_nil ⟨σ1,H1,I1.untri,q⟩
  | brk=>obtain⟨σ1,H1,I1,q⟩:=hs1;exact⟨σ1,H1,I1.untri,q⟩
  | cont=>obtain⟨σ1,H1,I1,q⟩:=hs1;exact⟨σ1,H1,I1.untri,q⟩
  | ret u=>obtain⟨v,σ1,H1,I1,r,q⟩:=hs1;exact⟨v,σ1,H1,I1.untri,r,q⟩
end
end L2
set_option linter.all false
set_option maxHeartbeats 4000000
namespace L2
open PySem PySem.Spec PyProof.Rows
mutual
inductive Rep(K:PySem.W.Frag)(H:Hp):V->PyData->Prop
 | non:Rep K H .non .none
 | bl (b:Bool):Rep K H (.bl b) (.bool b)
 | int (i:Int):Rep K H (.int i) (.int i)
 | str (x:Str):Rep K H (.str x) (.str x)
 | lst {a:Addr} {xs:List V} {ds:List PyData}:SqL K H a xs->RepAll K H xs ds->Rep K H (.ref a) (.list ds)
 | tup {a:Addr} {xs:List V} {ds:List PyData}:SqT K H a xs->RepAll K H xs ds->Rep K H (.ref a) (.tuple ds)
inductive RepAll(K:PySem.W.Frag)(H:Hp):List V->List PyData->Prop
 | nil:RepAll K H [] []
 | cons {v:V} {d:PyData} {vs:List V} {ds:List PyData}:Rep K H v d->RepAll K H vs ds->RepAll K H (v::vs) (d::ds)
end
section
variable{X:Cx}{pins:List (Addr × Obj)}{σ:St}{H:Hp}{s:Shared}
mutual
theorem Rep.reads(I:Inv X pins σ H s):∀ {v:V} {d:PyData} {u:Value},Rep X.K H v d->RelV v u->∃ as,Reads s.heap u d as
  | _,_,_,.non,r=>by cases (show _=Value.none from r);exact⟨_,.none⟩
  | _,_,_,.bl b,r=>by cases (show _=Value.bool b from r);exact⟨_,.bool b⟩
  | _,_,_,.int i,r=>by obtain⟨t,e⟩:=(show ∃ t,_=Value.int i t from r);cases e;exact⟨_,.int i t⟩
  | _,_,_,.str x,r=>by obtain⟨t,e⟩:=(show ∃ t,_=Value.str x t from r);cases e;exact⟨_,.str x t⟩
  | _,_,_,.lst (a:=a) h hr,r=>by
    cases (show _=Value.ref a from r)
    obtain⟨its,rv,p,_⟩:=I.list h
    obtain⟨as,q⟩:=RepAll.reads I hr rv
    obtain⟨o,e1,e2,n,e3⟩:=p.isList
    exact⟨_,.list e1 e2 e3 q⟩
  | _,_,_,.tup (a:=a) h hr,r=>by
    cases (show _=Value.ref a from r)
    obtain⟨its,rv,p,_⟩:=I.tuple h
    obtain⟨as,q⟩:=RepAll.reads I hr rv
    obtain⟨o,e1,e2,n,e3⟩:=p
    exact⟨_,.tuple e1 e2 e3 q⟩
theorem RepAll.reads(I:Inv X pins σ H s):∀ {vs:List V} {ds:List PyData} {us:List Value},RepAll X.K H vs ds->Vals vs us->∃ as,ReadsAll s.heap us ds as
  | _,_,_,.nil,.nil=>⟨_,.nil⟩
  | _,_,_,.cons h hr,.cons r rr=>by
    obtain⟨as,q⟩:=Rep.reads I h r
    obtain⟨bs,q2⟩:=RepAll.reads I hr rr
    exact⟨_,.cons q q2⟩
end
end
abbrev shp(d:PyData):Prop:=PySem.SeqAt.shaped d=true
def rEqA(K:PySem.W.Frag):R2:=λx y H Q=>if scal x y=true then Q (.bl (decide (x=y))) H else ∃ d e,Rep K H x d/\Rep K H y e/\shp d/\shp e/\Q (.bl (PyData.eqv d e)) H
def rNeA(K:PySem.W.Frag):R2:=λx y H Q=>if scal x y=true then Q (.bl (!decide (x=y))) H else ∃ d e,Rep K H x d/\Rep K H y e/\shp d/\shp e/\Q (.bl (!PyData.eqv d e)) H
section
variable{X:Cx}
theorem zgz(hu:X.A.units+64<cLine):OpR X (compareOp .Eq) (rEqA X.K):=by
 intro pins s σ H x y v u Q I rx ry h
 unfold rEqA at h
 split at h
 ·rename_i hs
  exact zaib pins s σ H x y v u Q I rx ry ⟨hs,h⟩
 ·obtain⟨d,e,rd,re,sd,se,q⟩:=h
  obtain⟨as,ra⟩:=rd.reads I rx
  obtain⟨bs,rb⟩:=re.reads I ry
  exact eq_dataH ra rb sd se hu ⟨.bl _,H,I,rfl,q⟩
theorem zyf(hu:X.A.units+64<cLine):OpR X (compareOp .NotEq) (rNeA X.K):=by
 intro pins s σ H x y v u Q I rx ry h
 unfold rNeA at h
 split at h
 ·rename_i hs
  exact zaic pins s σ H x y v u Q I rx ry ⟨hs,h⟩
 ·obtain⟨d,e,rd,re,sd,se,q⟩:=h
  obtain⟨as,ra⟩:=rd.reads I rx
  obtain⟨bs,rb⟩:=re.reads I ry
  exact ne_dataH ra rb sd se hu ⟨.bl _,H,I,rfl,q⟩
def zaao(K:PySem.W.Frag):R2:=λx y H Q=>∃ a b ys,x=.ref a/\y=.ref b/\SqT K H a []/\SqT K H b ys/\Q (.ref b) H
theorem zacb:OpR X (binaryOp .Add) (zaao X.K):=by
 intro pins s σ H x y v u Q I rx ry h
 obtain⟨a,b,ys,rfl,rfl,ha,hb,q⟩:=h
 cases rx
 cases ry
 obtain⟨its,r1,⟨⟨c1,c2,c3,c4⟩,e1,e2,n1,e3⟩,_⟩:=I.tuple ha
 obtain⟨its2,r2,⟨⟨d1,d2,d3,d4⟩,f1,f2,n2,f3⟩,_⟩:=I.tuple hb
 obtain rfl:c1=_:=e2
 obtain rfl:c3=_:=e3
 obtain rfl:d1=_:=f2
 obtain rfl:d3=_:=f3
 cases r1
 exact concat_meets ⟨_,e1,rfl⟩ ⟨_,f1,rfl⟩ noFill_tuple_add seq_tuple_add PySem.F.slot_tuple_add PySem.F.entry_tuple_add (PySem.F.args_tuple_add_2 _ _) (tuple_addW0 a b #[] its2.toArray n1 n2 c2 d2 c4 d4 rfl) ⟨e1,f1,.ref b,H,I,rfl,q⟩
def zfz(K:PySem.W.Frag):R2:=λx y H Q=>match x,y with
 | .int i,.int j=>Q (.int (i+j)) H
 | .str i,.str j=>i.length+j.length<=sizeLine/\Q (.str (i++j)) H
 | .ref _,.ref _=>rCat x y H Q\/zad6 K x y H Q\/zaao K x y H Q
 | _,_=>False
theorem zcc:OpR X (binaryOp .Add) (zfz X.K):=by
 intro pins s σ H x y v u Q I rx ry h
 cases x<;>cases y<;>simp only[zfz]at h
 ·exact zagc pins s σ H _ _ v u Q I rx ry ⟨_,_,rfl,rfl,h⟩
 ·exact zy0 pins s σ H _ _ v u Q I rx ry ⟨_,_,rfl,rfl,h⟩
 ·rcases h with h | h
  ·exact zago pins s σ H _ _ v u Q I rx ry h
  rcases h with h | h
  ·exact zad7 pins s σ H _ _ v u Q I rx ry h
  ·exact zacb pins s σ H _ _ v u Q I rx ry h
def rLtA:R2:=λx y H Q=>match x,y with
 | .int i,.int j=>Q (.bl (decide (i<j))) H
 | .str i,.str j=>Q (.bl (decide (i.cps.toList<j.cps.toList))) H
 | _,_=>False
def rLeA:R2:=λx y H Q=>match x,y with
 | .int i,.int j=>Q (.bl (decide (i<=j))) H
 | .str i,.str j=>Q (.bl (!decide (j.cps.toList<i.cps.toList))) H
 | _,_=>False
end
end L2
set_option linter.all false
set_option maxRecDepth 100000
set_option maxHeartbeats 4000000
namespace L2
open PySem PySem.Spec PyProof.Rows
theorem zow:fillsNumberSlot (.type "tuple") "mul"=pure false :=
 PySem.fillsNumberSlot_seq (id:="tuple.__mul__") (r:=some (.builtin "tuple.__rmul__")) F.slot_tuple_mul.lookup (by decide +kernel) F.slot_tuple_rmul.lookup (by decide +kernel)
theorem zu7:seqRepeat? (.type "tuple")=pure (some (.builtin "tuple.__mul__")):=by
 unfold seqRepeat?
 rw[PySem.seqSlot_of (T:="tuple") (name:="__mul__") (id:="tuple.__mul__") F.slot_tuple_mul.lookup (by decide +kernel),PySem.seqSlot_of (T:="tuple") (name:="__rmul__") (id:="tuple.__rmul__") F.slot_tuple_rmul.lookup (by decide +kernel)]
 rfl
theorem zrv(a:Int)(t:Tok)(l:Addr)(items:Array Value)(dd:Option Addr)(n:Nat)(sl:Array (Option Value)) :
  Meets (Builtin.«int.__rmul__» ⟨[.int a t,.ref l],[]⟩) (λ_ R s=>s.heap.get? l=some ⟨.type "tuple",dd,.seq items n,sl⟩/\R (.ok (.ret Value.notImplemented)) s) :=
 .of_wp λprog w A R s h=>by obtain⟨hp,g,d,tk,os⟩:=s;obtain⟨hl,h⟩:=h;wp_walk;exact⟨_,rfl,h⟩
theorem zto(l:Addr)(items:Array Value)(dd:Option Addr)(n:Nat)(sl:Array (Option Value))(x:Int)(u:Tok)(h1:1<x)(h2:x<2 ^ 63)(hne:items.isEmpty=false)(hz:items.size * x.toNat<=sizeLine) :
  Meets (Builtin.«tuple.__mul__» ⟨[.ref l,.int x u],[]⟩) (λ_ R s=>s.heap.get? l=some ⟨.type "tuple",dd,.seq items n,sl⟩ ∧
   R (.ok (.ret (Value.ref s.heap.objs.size))) { s with heap:=s.heap.push { cls:=Value.type "tuple",data:=Data.seq (List.foldl (λx1 x2=>x1++x2) #[] (List.replicate x.toNat items)) } }) :=
 .of_wp λprog w A R s h=>by
  obtain⟨hp,g,d,tk,os⟩:=s;obtain⟨hl,h⟩:=h
  have hsl:(sizeLine:Nat)<=(2 ^ 63 - 1) / 8:=by decide
  have hlen:(List.foldl (λx1 x2=>x1++x2) #[] (List.replicate x.toNat items)).size<=sizeLine:=by
   have:=zlt items.toList x.toNat []
   simp only[List.nil_append,Array.toArray_toList]at this
   rw[this]
   simp only[List.size_toArray,List.length_flatten,List.map_replicate,List.sum_replicate_nat,Array.length_toList]
   rw[Nat.mul_comm];exact hz
  have hx:∃ N:Nat,(items.size:Int) * x=(N:Int)/\N<=sizeLine:=⟨items.size * x.toNat,by rw[Int.natCast_mul,Int.toNat_of_nonneg (by omega)],hz⟩
  obtain⟨N,hx,hN⟩:=hx
  unfold Builtin.«tuple.__mul__»
  wp_walk
  refine wpAny_ite_false (by simp;omega) ?_
  wp_walk
  refine wpAny_ite_false (by simp only[hne,Bool.false_or];simp;omega) ?_
  refine wpAny_ite_false (by simp only[hne,Bool.or_false];simp;omega) ?_
  refine wpAny_ite_false (by rw[hx];exact decide_eq_false (by omega)) ?_
  refine wpAny_ite_false (by rw[hx];unfold Builtin.Tuple.tupleTooMany;simp;omega) ?_
  wp_walk
  exact⟨_,rfl,h⟩
theorem ztp(l:Addr)(items:Array Value)(dd:Option Addr)(n:Nat)(sl:Array (Option Value))(u:Tok) :
  Meets (Builtin.«tuple.__mul__» ⟨[.ref l,.int 1 u],[]⟩) (λ_ R s=>s.heap.get? l=some ⟨.type "tuple",dd,.seq items n,sl⟩/\R (.ok (.ret (Value.ref l))) s) :=
 .of_wp λprog w A R s h=>by
  obtain⟨hp,g,d,tk,os⟩:=s;obtain⟨hl,h⟩:=h
  unfold Builtin.«tuple.__mul__»
  wp_walk
  exact⟨_,rfl,h⟩
def zaei(K:PySem.W.Frag):R2:=λx y H Q=>∃ a k xs,x=.ref a/\y=.int k/\SqT K H a xs/\xs≠[]/\1<=k/\k<2 ^ 63/\xs.length * k.toNat<=sizeLine ∧
 (k=1->Q (.ref a) H)/\(k≠1->∀ p,H p=none->Q (.ref p) (upd H p (.tup (List.replicate k.toNat xs).flatten)))
section
variable{X:Cx}
theorem Inv.tnew{pins:List (Addr × Obj)}{σ:St}{H:Hp}{s:Shared}{ys:List V}{its:List Value}(I:Inv X pins σ H s)(hv:Vals ys its)(hz:ys.length<=sizeLine) :
  Inv X pins σ (upd H s.heap.objs.size (.tup ys)) { s with heap:=s.heap.push { cls:=.type "tuple",data:=.seq its.toArray } } :=
 I.laid (t':=s.toks) (λ_ _ q=>Heap.get?_push_of_some _ q) (Nat.le_refl _) ⟨hz,its,hv,_,Heap.get?_push_size _ rfl,rfl,0,rfl⟩
theorem zaej:OpR X (binaryOp .Mult) (zaei X.K):=by
 intro pins s σ H x y v u Q I rx ry h
 obtain⟨a,k,xs,rfl,rfl,hx,hne,h1,h2,hz,q1,q2⟩:=h
 cases rx
 obtain⟨t,rfl⟩:=ry
 obtain⟨its,r,⟨⟨c1,c2,c3,c4⟩,e1,e2,n,e3⟩,_⟩:=I.tuple hx
 obtain rfl:c1=_:=e2
 obtain rfl:c3=_:=e3
 have hl:=r.length
 have he:its.toArray.isEmpty=false:=by
  cases its with
  | nil=>exact absurd (List.length_eq_zero_iff.mp hl) hne
  | cons b t=>rfl
 refine wpAny_binaryOp_repeat_ref (T:="tuple") (U:="int") (by decide) ⟨_,e1,rfl⟩ (λs'=>typeIs_int s' k t) zow F.fills_int_mul F.slot_int_rmul zu7 F.slot_int_index.lookup
  (call_meets F.slot_int_rmul (typeIs_int s k t) F.entry_int_rmul (F.args_int_rmul_2 _ _) (zrv k t a its.toArray c2 n c4) ⟨e1,rfl,⟨_,e1,rfl⟩,?_⟩)
 by_cases hk:k=1
 ·subst hk
  exact call_meets F.slot_tuple_mul ⟨_,e1,rfl⟩ F.entry_tuple_mul (F.args_tuple_mul_2 _ _) (ztp a its.toArray c2 n c4 t) ⟨e1,.ref a,H,I,rfl,q1 rfl⟩
 ·refine call_meets F.slot_tuple_mul ⟨_,e1,rfl⟩ F.entry_tuple_mul (F.args_tuple_mul_2 _ _) (zto a its.toArray c2 n c4 k t (by omega) h2 he (by rw[List.size_toArray,<-hl];exact hz)) ⟨e1,?_⟩
  have f0:=zlt its k.toNat []
  rw[List.nil_append]at f0
  rw[f0]
  exact⟨.ref _,_,I.tnew (r.rep k.toNat) (by rw[zaad,Nat.mul_comm];exact hz),rfl,q2 hk _ I.fresh⟩
abbrev zaih:R2:=rI0 λi j=>.int (i - j)
abbrev zf3:R2:=rI (λ_ j=>0<j) λi j=>.int (i % j)
abbrev zox:R2:=rI CDiv λi j=>.int (i / j)
abbrev zaii:R2:=rI CPow λi j=>.int (i ^ j.toNat)
abbrev zag1:V->Hp->VK->Prop:=rU λi=>.int (-i)
abbrev zag2:TIp:=ipI λi j=>i+j
def repS(z:Str)(k:Int):Str:=if k<1 then Str.empty else if(k == 1 || z.length == 0)=true then z else⟨(List.replicate k.toNat z.cps).foldl (· ++·) #[]⟩
theorem zaek(z:Str)(k:Nat):(Str.mk ((List.replicate k z.cps).foldl (· ++·) #[])).length=k * z.length:=by
 have e:∀ (m:Nat) (acc:Array Nat),((List.replicate m z.cps).foldl (· ++·) acc).size=acc.size+m * z.cps.size:=λm=>by
  induction m with
  | zero=>intro acc;simp
  | succ m ih=>intro acc;rw[List.replicate_succ,List.foldl_cons,ih,Array.size_append,Nat.succ_mul];omega
 have:=e k #[]
 simpa [Str.length]using this
def zaij:R2:=λx y H Q=>∃ z k,x=.str z/\y=.int k/\0<=k/\k<=1000/\z.length<=1000/\Q (.str (repS z k)) H
theorem zael:OpR X (binaryOp .Mult) zaij:=by
  intro pins s σ H x y v u Q I rx ry h
  obtain⟨z,k,rfl,rfl,h1,h2,h3,q⟩:=h
  obtain⟨t,rfl⟩:=rx
  obtain⟨t',rfl⟩:=ry
  refine PySem.P.mul_str (by simp;omega) (λa _=> ?_) (λa _=> ?_) ?_
  · have:(1000:Int)<=(2 ^ 63 - 1) / k:=(Int.le_ediv_iff_mul_le (by omega)).mpr (by omega)
    omega
  · have h4:z.length * k.toNat<=1000 * 1000:=Nat.mul_le_mul h3 (by omega)
    have h5:(1000 * 1000:Nat)<=sizeLine:=by decide
    unfold Builtin.Str.tooLong
    exact decide_eq_false (by omega)
  · unfold repS at q
    split
    · rename_i c
      rw[if_pos c]at q
      exact⟨by show(0:Nat)<=sizeLine;omega,.str _,H,I.tok _,⟨_,rfl⟩,q⟩
    · rename_i c
      rw[if_neg c]at q
      split
      · rename_i d
        rw[if_pos d]at q
        exact⟨.str _,H,I,⟨_,rfl⟩,q⟩
      · rename_i d
        rw[if_neg d]at q
        exact⟨by rw[zaek];have:=Nat.mul_le_mul (show k.toNat<=1000 by omega) h3;show _<=2 ^ 24;omega,.str _,H,I.tok _,⟨_,rfl⟩,q⟩
def zj1(K:PySem.W.Frag):R2:=λx y H Q=>match x,y with
 | .int i,.int j=>CMul i j/\Q (.int (i * j)) H
 | .str z,.int k=>0<=k/\k<=1000/\z.length<=1000/\Q (.str (repS z k)) H
 | .ref _,.int _=>rRep x y H Q\/zaei K x y H Q
 | _,_=>False
theorem zha:OpR X (binaryOp .Mult) (zj1 X.K):=by
 intro pins s σ H x y v u Q I rx ry h
 cases x<;>cases y<;>simp only[zj1]at h
 ·exact zagd pins s σ H _ _ v u Q I rx ry ⟨_,_,rfl,rfl,h⟩
 ·exact zael pins s σ H _ _ v u Q I rx ry ⟨_,_,rfl,rfl,h⟩
 ·rcases h with h | h
  ·exact zagp pins s σ H _ _ v u Q I rx ry h
  ·exact zaej pins s σ H _ _ v u Q I rx ry h
def rGtA:R2:=λx y H Q=>match x,y with
 | .int i,.int j=>Q (.bl (decide (j<i))) H
 | _,_=>False
def rGeA:R2:=λx y H Q=>match x,y with
 | .int i,.int j=>Q (.bl (decide (j<=i))) H
 | _,_=>False
theorem zly:OpR X (compareOp .Lt) rLtA:=by
 intro pins s σ H x y v u Q I rx ry h
 cases x<;>cases y<;>simp only[rLtA]at h
 ·exact zaid pins s σ H _ _ v u Q I rx ry ⟨_,_,rfl,rfl,h⟩
 ·obtain⟨t,rfl⟩:=rx
  obtain⟨t',rfl⟩:=ry
  exact PySem.P.lt_str ⟨.bl _,H,I,rfl,h⟩
theorem zyg:OpR X (compareOp .LtE) rLeA:=by
 intro pins s σ H x y v u Q I rx ry h
 cases x<;>cases y<;>simp only[rLeA]at h
 ·exact zaie pins s σ H _ _ v u Q I rx ry ⟨_,_,rfl,rfl,h⟩
 ·obtain⟨t,rfl⟩:=rx
  obtain⟨t',rfl⟩:=ry
  exact PySem.P.le_str ⟨.bl _,H,I,rfl,h⟩
theorem zag3:OpR X (compareOp .Gt) rGtA:=by
 intro pins s σ H x y v u Q I rx ry h
 cases x<;>cases y<;>simp only[rGtA]at h
 exact zaif pins s σ H _ _ v u Q I rx ry ⟨_,_,rfl,rfl,h⟩
abbrev rIsN:R2:=λx y H Q=>y=.non/\Q (.bl (decide (x=.non))) H
abbrev zag4:R2:=λx y H Q=>y=.non/\Q (.bl (!decide (x=.non))) H
variable{a:Expr}{ta:TE}{tA:TT}{pos:Pos}
abbrev tTru(K:PySem.W.Frag)(ta:TE):TT:=λσ H Q=>ta σ H λx H'=>∃ k,TruV K x H' k/\Q k H'
def rIxA(K:PySem.W.Frag):R2:=rIx K
theorem zbk:IxR X (rIxA X.K):=zagk
def rSlS:V->Option Int->Option Int->Hp->VK->Prop:=λx lo hi H Q=>∃ z,x=.str z/\z.length<=sizeLine/\Q (.str (Txt.slice z lo hi)) H
theorem zaap{v:Value}{lo:Option Int}(p:IsPart v lo):∃ l:Option (Int × Tok),v=partValue l/\l.map (·.1)=lo:=by
 cases p with
 | none=>exact⟨none,rfl,rfl⟩
 | int i t=>exact⟨some (i,t),rfl,rfl⟩
theorem zag5:SlR X rSlS:=by
 intro pins s σ H x v vl vu lo hi sl Q I rx hs pl pu h
 obtain⟨z,rfl,hz,q⟩:=h
 obtain⟨t,rfl⟩:=rx
 obtain⟨l,rfl,rfl⟩:=zaap pl
 obtain⟨u,rfl,rfl⟩:=zaap pu
 refine⟨"str",_,PySem.F.slot_str_getitem.lookup,typeIs_str _ _ _,?_⟩
 exact wpAny_getItem_str_slice (l:=l) (u:=u) (st:=none) hs rfl (post_val_or_str ⟨Nat.le_trans (Txt.slice_le z _ _) hz,λt' k=>⟨.str _,H,I.tok k,⟨t',rfl⟩,q⟩⟩)
def rSlA(K:PySem.W.Frag):V->Option Int->Option Int->Hp->VK->Prop:=λx lo hi H Q=>match x with
 | .str z=>z.length<=sizeLine/\Q (.str (Txt.slice z lo hi)) H
 | _=>rSlL K x lo hi H Q\/rSlT K x lo hi H Q
theorem zadl:SlR X (rSlA X.K):=by
 intro pins s σ H x v vl vu lo hi sl Q I rx hs pl pu h
 cases x<;>first
  | exact zag5 pins s σ H _ v vl vu lo hi sl Q I rx hs pl pu ⟨_,rfl,h⟩
  | exact(SlR.or zad9 zagi) pins s σ H _ v vl vu lo hi sl Q I rx hs pl pu h
abbrev zaaq:V->V->V->Hp->(Hp->Prop)->Prop:=zagl
theorem ztq:PSet X zaaq:=zab2
def iSeq(K:PySem.W.Frag)(tl:TE):TI:=λσ H R=>tl σ H λx H1=>∃ a,x=.ref a/\(((∃ xs,SqL K H1 a xs)/\R (Itl K a) H1)\/((∃ xs,SqT K H1 a xs)/\R (Itt K a) H1))
theorem PI.or{tg it:Expr}{w1 w2:TI}(h1:PI X tg it w1)(h2:PI X tg it w2):PI X tg it (λσ H R=>w1 σ H R\/w2 σ H R):=λpins s σ H R I h=>h.elim (h1 pins s σ H R I) (h2 pins s σ H R I)
def zbf(K:PySem.W.Frag):List V->Hp->VK->Prop:=λxs H Q=>∃ x n,xs=[x]/\LenV K x H n/\Q (.int n) H
theorem zdk:CallR X (.builtin "len") (zbf X.K):=zabv
def zeo(K:PySem.W.Frag):List V->Hp->VK->Prop:=λxs H Q=>∃ p ys,xs=[.ref p]/\(SqL K H p ys\/SqT K H p ys)/\∀ l,H l=none->Q (.ref l) (upd H l (.lst ys))
theorem zjv:CallR X (.type "list") (zeo X.K):=zu1
def ze4(K:PySem.W.Frag):List V->Hp->VK->Prop:=λxs H Q=>∃ p ys,xs=[.ref p]/\((SqL K H p ys/\∀ l,H l=none->Q (.ref l) (upd H l (.tup ys)))\/(SqT K H p ys/\Q (.ref p) H))
theorem zkj:CallR X (.type "tuple") (ze4 X.K):=ztk
def zie(K:PySem.W.Frag):List V->Hp->VK->Prop:=λxs H Q=>(∃ i,xs=[.int i]/\Q (.int i) H)\/∃ k,xs=[.bl k]/\Q (.int (if k then 1 else 0)) H
abbrev zhb:=zaac
end
end L2
set_option linter.all false
set_option maxRecDepth 100000
set_option maxHeartbeats 4000000
namespace L2
open PySem PySem.Spec PyProof.Rows
section
variable{X:Cx}{tg a:Expr}{ta:TE}{pos:Pos}
theorem zop{l:Expr}{tl:TE}(hl:PE X l tl):PI X tg l (iSeq X.K tl):=by
 intro pins s σ H R I h
 refine thn (hl pins s σ H _ I h) λv s1 ⟨x,H1,I1,r1,q1⟩=> ?_
 obtain⟨a,e,q1⟩:=q1
 subst e
 cases r1
 have fp1:∀ b∈[s1.heap.objs.size],FpOk X pins H1 b:=λb hb=>by
  have e:b=s1.heap.objs.size:=by simpa using hb
  subst e
  exact I1.fpOk (Nat.le_refl _) (I1.hok.fresh (Nat.le_refl _))
 rcases q1 with⟨⟨xs,hq⟩,q⟩ | ⟨⟨xs,hq⟩,q⟩
 ·obtain⟨its,rv,p,hz⟩:=I1.list hq
  refine wpAny_pyIter_list p.isList ?_
  exact⟨s1.heap.objs.size,[s1.heap.objs.size],_,_,H1,rfl,I1.kept (t':=s1.toks) λb o e=>Heap.get?_push_of_some _ e,zzv a _,⟨_,Heap.get?_push_size _ rfl,rfl,rfl⟩,fp1,q⟩
 ·obtain⟨its,rv,p,hz⟩:=I1.tuple hq
  refine wpAny_pyIter_tuple (show s1.heap.IsTuple a its.toArray from p) ?_
  exact⟨s1.heap.objs.size,[s1.heap.objs.size],_,_,H1,rfl,I1.kept (t':=s1.toks) λb o e=>Heap.get?_push_of_some _ e,zyx a _,⟨_,Heap.get?_push_size _ rfl,rfl,rfl⟩,fp1,q⟩
def zacc(K:PySem.W.Frag)(ta:TE):TE:=λσ H Q=>ta σ H λx H1=>∃ k,TruV K x H1 k/\Q (.bl (!k)) H1
theorem zaar(ha:PE X a ta):PE X (.UnaryOp .Not a pos) (zacc X.K ta):=by
 intro pins s σ H Q I h
 refine UnaryOp_ (thn (ha pins s σ H _ I h) λv s1 ⟨x,H1,I1,r1,k,t1,q1⟩=> ?_)
 exact not_of (thn (zadi pins s1 σ H1 x v (λc H2=>c=k/\H2=H1) I1 r1 ⟨k,t1,rfl,rfl⟩) λc s2 ⟨H2,I2,e1,e2⟩=>by
  subst e1;subst e2;exact⟨.bl (!c),_,I2,rfl,q1⟩)
end
def cpOk(scope outer:Scope)(N cn:List Str)(cap:List Nat):Bool :=
 scope.kind == .function && scope.names.all (λy=>y.2 != .cell) && scope.names.all (λy=>y.2 != .local || scope.names.lookup y.1 == some .local) &&
 scope.names.all (λy=>y.2 != .free || outer.names.lookup y.1 == some .cell || outer.names.lookup y.1 == some .free) && cn.all (λx=>scope.names.lookup x == some .free) && (cap.map (λi=>N[i]?) == cn.map some)
theorem zlz{X:Cx}{scope outer:Scope}{N tn cn:List Str}{cap:List Nat}(h1:X.env.scope=outer)(h2:X.N=N)(h:cpOk scope outer N cn cap=true):zqm X scope tn cn cap:=by
 unfold cpOk at h
 simp only[Bool.and_eq_true,List.all_eq_true,Bool.or_eq_true,bne_iff_ne,beq_iff_eq]at h
 obtain⟨⟨⟨⟨⟨k1,k2⟩,k3⟩,k4⟩,k5⟩,k6⟩:=h
 refine⟨k1,k2,λy hy hl=>(k3 y hy).resolve_left λz=>z hl,λy hy hf=> ?_,k5,by rw[h2];exact k6⟩
 have z:=k4 y hy
 show X.env.scope.names.lookup y.1=_\/X.env.scope.names.lookup y.1=_
 rw[h1]
 rcases z with(z | z) | z
 ·exact absurd hf z
 ·exact .inl z
 ·exact .inr z
structure ExcC(K:PySem.W.Frag)(C:Addr):Prop where
 ga:PySem.W.findIn K (.ref C) "__getattribute__"=some (some (.builtin "BaseException.__getattribute__"))
 gt:PySem.W.findIn K (.ref C) "__getattr__"=some none
 be:PySem.W.mroIn K C (.type "BaseException")=some true
 cl:PySem.W.isClsIn K C=true
 ha:PySem.W.findIn K (.ref C) "__class__"=some (some (.builtin "object.__class__"))
 hn:PySem.W.specialIn K (.builtin "object.__class__") "__get__"=some (some (.builtin "getset_descriptor.__get__"))
 tk:PySem.W.takesIn K (.builtin "object.__class__")=some true
 mr:PySem.W.mroIn K C (.type "object")=some true
theorem ztr{K:PySem.W.Frag}{C:Addr}{od:Option Obj}{name:Str}{a g:Value}(hc:(PySem.W.clsIn K C).isSome=true)(ha:PySem.W.findIn K (.ref C) name=some (some a))(hg:PySem.W.specialIn K a "__get__"=some (some g))(ht:PySem.W.takesIn K a=some true) :
  PySem.W.findObj K C od name=some (.bind g a):=by
 obtain⟨cd,hc⟩:=Option.isSome_iff_exists.mp hc
 unfold PySem.W.findObj
 rw[hc,Option.bind_some,ha,Option.bind_some]
 simp[hg,ht]
theorem zaas{K:PySem.W.Frag}{M:Model}{A:Around}{E:Value->Shared->Prop}{Q:Unit->Shared->Prop}{s:Shared}{x D:Addr}{ox:Obj}{nm:Value}(c:ExcC K D)(X:K.In s.heap)(I:PySem.W.InstAt s.heap x ox D none)(k:Q () s) :
    wpAny M A (checkBuiltinCall "BaseException.__getattribute__" ⟨[.ref x,nm],[]⟩) Q E s:=by
  have e1:builtinKind "BaseException.__getattribute__"=some .slot:=by decide +kernel
  have e2:splitId "BaseException.__getattribute__"=some ("BaseException","__getattribute__"):=by decide +kernel
  have L:PySem.W.Looks M s.heap (isInstance (.ref x) (.type "BaseException")) true:=(I.type (M:=M)).andThen (PySem.W.looks_mroIn (M:=M) X c.be)
  have ar:=PySem.F.args_bexc_ga (.ref x) nm
  obtain⟨hh,g,d,t,os⟩:=s
  simp only[checkBuiltinCall,e1,e2]
  refine wpAny_bind (L.at ?_)
  simp only[Bool.not_true,Bool.false_eq_true,if_false]
  cases hs:Manifest.signature? "BaseException.__getattribute__" with
  | none=>exact wpAny_pure k
  | some sig =>
    simp only[argsOk,hs]at ar
    have z:Bind.checkArgs "BaseException.__getattribute__" sig ⟨[.ref x,nm],[]⟩=pure ():=ar
    show wpAny M A (Bind.checkArgs "BaseException.__getattribute__" sig ⟨[.ref x,nm],[]⟩) Q E _
    rw[z];exact wpAny_pure k
theorem zaat{K:PySem.W.Frag}{prog:Program}{w:World}{A:Around}{E:Value->Shared->Prop}{Q:Option Value->Shared->Prop}{s:Shared}{x D:Addr}{ox:Obj}(c:ExcC K D)(X:K.In s.heap)(I:PySem.W.InstAt s.heap x ox D none)
  (k:Q (some (.ref D)) { s with toks:=s.toks+1 }):wpAny (model prog w) A (getAttr? (.ref x) "__class__") Q E s:=by
 obtain⟨hh,g,d,t,os⟩:=s
 have L0:=I.type (M:=model prog w)
 have L1:=PySem.W.looks_findIn (M:=model prog w) X c.ga
 have L2:=PySem.W.looks_findIn (M:=model prog w) X c.gt
 have L3:=PySem.W.looks_find (M:=model prog w) X I (ztr (name:="__class__") c.cl c.ha c.hn c.tk)
 unfold getAttr? getAttrBy? getAttrBy
 refine wpAny_bind (wpAny_mkText (wpAny_bind (wpAny_attempt (wpAny_holding (wpAny_bind (L0.at (wpAny_bind (L1.at ?_))))))))
 show wpAny _ _ (getAttrByItsOwn _ _ _ _ _ _) _ _ _
 unfold getAttrByItsOwn
 refine wpAny_bind (L2.at (wpAny_bind (wpAny_attempt (wpAny_holding ?_))))
 show wpAny _ _ (boundAndCalled _ _ _) _ _ _
 unfold boundAndCalled
 rw[PySem.F.attr_ValueError.ga.bind (.ref x)]
 refine wpAny_bind (wpAny_pure (wpAny_call (codeAny_call_builtin PySem.F.attr_ValueError.ga.plain PySem.F.entry_bexc_ga (zaas c X I ?_))))
 refine wpAny_bind (wpAny_pure (wpAny_bind (wpAny_pure (wpAny_bind (L0.at (wpAny_bind (L3.at ?_)))))))
 show wpAny _ _ (holding [_] (call _ _) >>= ret) _ _ _
 refine wpAny_bind (wpAny_holding (wpAny_call (PySem.W.class_get (ox:=ox) (od:=none) X I c.mr (wpAny_pure ?_))))
 exact PySem.W.handed_on rfl (wpAny_pure k)
theorem zacd{K:PySem.W.Frag}{x D:Addr}(c:ExcC K D):PySem.W.KitX K (.ref x) (.ref D) (zru x (.ref D)):=by
 have inst:∀ {h:Heap},zru x (.ref D) h->∃ ox,PySem.W.InstAt h x ox D none:=λ{h} ⟨oe,vs,e1,e2,e3,e4⟩=>by
  refine⟨oe,e1,e2,?_,?_⟩
  ·unfold PySem.W.notCls;rw[e4]
  ·rw[e3];trivial
 have cls:∃ cd,PySem.W.clsIn K D=some cd:=Option.isSome_iff_exists.mp c.cl
 refine⟨λM h _ p=>(inst p).elim λ_ I=>I.type,λM h X p=> ?_,λh tp dd its n sl X htp=> ?_,λ{prog w A E Q s} X p k=> ?_⟩
 ·obtain⟨cd,hc⟩:=cls
  unfold PySem.W.clsIn at hc
  split at hc
  ·rename_i c' d' cd' sl' ho
   intro A' Q' E' s' k q
   unfold isType loadHead
   exact wpAny_bind (wpAny_loadPart (k _ _ (X _ _ ho)) (wpAny_pure q))
  ·cases hc
 ·obtain⟨cd,hc⟩:=cls
  refine Bool.eq_false_iff.mpr λq=> ?_
  have e:D=tp:=Value.ref.inj (beq_iff_eq.mp q)
  subst e
  unfold PySem.W.clsIn at hc
  split at hc
  ·rename_i c' d' cd' sl' ho
   have z:=(X _ _ ho).symm.trans htp
   cases z
  ·cases hc
 ·obtain⟨ox,I⟩:=inst p
  exact zaat c X I k
def TyX(K:PySem.W.Frag)(H:Hp)(x:V)(t:Value):Prop:=TyOf K H x t\/∃ a C,x=.ref a/\t=.ref C/\H a=some (.ext (zru a (.ref C)))/\ExcC K C
inductive ClsV:V->Value->Prop
 | own (C:Addr):ClsV (.ref C) (.ref C)
 | ty (n:String):ClsV (.ty n) (.type n)
theorem ClsV.rel{y:V}{c u:Value}(h:ClsV y c)(r:RelV y u):u=c:=by
 cases h<;>exact r
theorem zu8:∀ {ys:List V} {cs us:List Value},Paired ClsV ys cs->Vals ys us->us=cs
 | _,_,_,.nil,.nil=>rfl
 | _,_,_,.cons h t,.cons r rr=>by rw[h.rel r,zu8 t rr]
def zcz(K:PySem.W.Frag):List V->Hp->VK->Prop:=λxs H Q=>∃ x y t b,xs=[x,y]/\TyX K H x t ∧
 ((∃ c,ClsV y c/\PySem.W.kitOne K t c=some b)\/∃ p ys cs,y=.ref p/\SqT K H p ys/\Paired ClsV ys cs/\PySem.W.kitAny K t cs=some b)/\Q (.bl b) H
section
variable{X:Cx}
theorem TyX.kit{pins:List (Addr × Obj)}{σ:St}{H:Hp}{s:Shared}{x:V}{t u:Value}(I:Inv X pins σ H s)(h:TyX X.K H x t)(r:RelV x u):∃ φ :Heap->Prop,PySem.W.KitX X.K u t φ /\ φ s.heap/\u≠.builtin "__main__.__loader__#opaque":=by
  rcases h with h | ⟨a,C,rfl,rfl,e,c⟩
  · cases h with
    | non=>cases (show u=Value.none from r);exact⟨_,PySem.W.kitx_none,trivial,λz=>nomatch z⟩
    | bl y=>cases (show u=Value.bool y from r);exact⟨_,PySem.W.kitx_bool,trivial,λz=>nomatch z⟩
    | int i=>obtain⟨t,q⟩:=(show ∃ t,u=Value.int i t from r);cases q;exact⟨_,PySem.W.kitx_int,trivial,λz=>nomatch z⟩
    | str y=>obtain⟨t,q⟩:=(show ∃ t,u=Value.str y t from r);cases q;exact⟨_,PySem.W.kitx_str,trivial,λz=>nomatch z⟩
    | flt y=>obtain⟨t,q⟩:=(show ∃ t,u=Value.float y t from r);cases q;exact⟨_,PySem.W.kitx_float,trivial,λz=>nomatch z⟩
    | @lst a xs ea =>
      cases (show u=Value.ref a from r)
      obtain⟨_,_,n,_,h1⟩:=(show ObjOk X.prog X.w H s.heap a (.lst xs)from I.hok a _ ea)
      exact⟨_,PySem.W.kitx_list,⟨_,h1,rfl⟩,λz=>nomatch z⟩
    | @frz a ob xs ea =>
      cases (show u=Value.ref a from r)
      obtain⟨_,_,_,n,_,h1⟩:=(show ObjOk X.prog X.w H s.heap a (.frz ob (.lst xs))from I.hok a _ ea)
      exact⟨_,PySem.W.kitx_list,⟨_,h1,rfl⟩,λz=>nomatch z⟩
    | @tup a xs ea =>
      cases (show u=Value.ref a from r)
      obtain⟨_,_,_,p⟩:=(show ObjOk X.prog X.w H s.heap a (.tup xs)from I.hok a _ ea)
      obtain⟨o,h1,h2,_⟩:=p
      exact⟨_,PySem.W.kitx_tuple,⟨o,h1,h2⟩,λz=>nomatch z⟩
    | @dK a kvs ea =>
      cases (show u=Value.ref a from r)
      obtain⟨_,_,vs,_,p⟩:=(show ObjOk X.prog X.w H s.heap a (.dK kvs)from I.hok a _ ea)
      obtain⟨o,es,ep,h1,h2,_⟩:=p
      exact⟨_,PySem.W.kitx_dict,⟨o,h1,h2.1⟩,λz=>nomatch z⟩
    | @dT a kvs ea =>
      cases (show u=Value.ref a from r)
      obtain⟨_,_,xs,_,o,es,ep,h1,h2,_⟩:=(show ObjOk X.prog X.w H s.heap a (.dT kvs)from I.hok a _ ea)
      exact⟨_,PySem.W.kitx_dict,⟨o,h1,h2.1⟩,λz=>nomatch z⟩
    | @ins a C dx fs ea cl ha hn htk hm =>
      cases (show u=Value.ref a from r)
      obtain⟨mA,O,_⟩:=ztg I.hok ea
      obtain⟨od,J,_⟩:=O.look
      exact⟨_,PySem.W.kitx_own (cl.get _) cl.hd ha hn htk hm,J,λz=>nomatch z⟩
  · cases (show u=Value.ref a from r)
    have p:zru a (.ref C) s.heap:=(show ObjOk X.prog X.w H s.heap a (.ext (zru a (.ref C)))from I.hok a _ e).1
    exact⟨_,zacd c,p,λz=>nomatch z⟩
theorem zhc:CallR X (.builtin "isinstance") (zcz X.K):=by
 intro pins s σ H xs us Q I r h
 obtain⟨x,y,t,b,rfl,ty,hc,q⟩:=h
 obtain⟨u,v,rfl,rx,ry⟩:=Vals.two r
 obtain⟨φ,Z,p,ne⟩:=ty.kit I rx
 rcases hc with⟨c,hy,e⟩ | ⟨pt,ys,cs,rfl,hs,hcs,e⟩
 ·have:=hy.rel ry
  subst this
  exact PySem.W.kia_one Z I.kIn p e ne λtk=>⟨.bl b,H,I.tok tk,rfl,q⟩
 ·cases (show v=Value.ref pt from ry)
  obtain⟨its,rv,⟨⟨c1,c2,c3,c4⟩,e1,e2,n,e3⟩,_⟩:=I.tuple hs
  obtain rfl:c1=_:=e2
  obtain rfl:c3=_:=e3
  have:=zu8 hcs rv
  subst this
  exact PySem.W.kia_tup Z I.kIn p e1 e ne λtk=>⟨.bl b,H,I.tok tk,rfl,q⟩
end
end L2
set_option linter.all false
namespace L2
open PySem PySem.Spec PyProof.Rows
def zts (J:It) (g:TG) (tt:TT) (te:TE) (k:Nat) (cap:List Nat) (σ:St) (H1:Hp) (Q:VK):Prop :=
  ∃ W : Nat->Nat->St->List V->Hp->Prop,(∃ m,W 0 m (zu5 k cap σ) [] H1)/\∀ i m σ' ys H,W i m σ' ys H →
    (J.stop i H/\∀ p,H p=none->Q (.ref p) (upd H p (.lst ys))) ∨
    (J.go i H/\ys.length<sizeLine/\∀ x H',J.yld i H x H'->g x σ' H' λσ2 H2=>tt σ2 H2 λb H3 =>
      if b=true then ∃ N:VK,(∀ y H4,N y H4->∃ m',m'<m/\W (i+1) m' σ2 (ys++[y]) H4)/\te σ2 H3 N else ∃ m',m'<m/\W (i+1) m' σ2 ys H3)
def zoy (J:It) (g:TG) (tb:TS) (D:Ends) (σ:St) (H1:Hp):Prop :=
  ∃ W:Nat->Nat->St->Hp->Prop,(∃ m,W 0 m σ H1)/\∀ i m σ H,W i m σ H →
    (J.stop i H/\D.nx σ H)\/(J.go i H/\∃ N:St->Hp->Prop,(∀ σ' H',N σ' H'->∃ m',m'<m/\W (i+1) m' σ' H')/\∀ x H',J.yld i H x H'->g x σ H' λσ2 H2=>tb { D with nx:=N,ct:=N,bk:=D.nx } σ2 H2)
section
variable{K:PySem.W.Frag}{ta tb tc to ti tv tl:TE}{tt tA tB' tu:TT}{s1 s2:TS}{r r':R2}{σ:St}{H:Hp}{Q:VK}{D:Ends}{QB:Bool->Hp->Prop}{as:TA}{g:TG}{gs:TGs}{te:TE}{k i:Nat}{cap:List Nat}{f m:Str}{C:Addr}{sp:Sp}{dvs:List V}{E:St->XK}{v:V}{vs:List V}{QA:List V->Hp->Prop}{QG:St->Hp->Prop}{QO:Option Int->Hp->Prop}
theorem zaem:tSeq s1 s2 D σ H=(s1 { D with nx:=s2 D } σ H):=rfl
theorem zace:ze1 D σ H=(D.nx σ H):=rfl
theorem zaau:zaga D σ H=(D.bk σ H):=rfl
theorem zacf:zah8 D σ H=(D.ct σ H):=rfl
theorem zaen:tAsg ta g D σ H=(ta σ H λx H1=>g x σ H1 D.nx):=rfl
theorem zacg:zi7 ta D σ H=(ta σ H λ_ H1=>D.nx σ H1):=rfl
theorem zaeo:tRet ta D σ H=(ta σ H D.rt):=rfl
theorem zach:zah9 D σ H=(D.rt .non H):=rfl
theorem zaep:tIfS tt s1 s2 D σ H=(tt σ H λb H1=>if b=true then s1 D σ H1 else s2 D σ H1):=rfl
theorem zaik:tC v σ H Q=(Q v H):=rfl
theorem zag6:tOp r ta tb σ H Q=(ta σ H λx H1=>tb σ H1 λy H2=>r x y H2 Q):=rfl
theorem zaci:zen ta σ H QB=(ta σ H λx H'=>∃ k,x=.bl k/\QB k H'):=rfl
theorem zaav:zsu r r' ta tb tc σ H Q=(ta σ H λx H1=>tb σ H1 λy H2=>r x y H2 λz H3=>∃ k,z=.bl k/\(if k=true then tc σ H3 λw' H4=>r' y w' H4 Q else Q (.bl false) H3)):=rfl
theorem zaeq:tNot tt σ H QB=(tt σ H λc H1=>QB (!c) H1):=rfl
theorem zaer:tAnd tt tu σ H QB=(tt σ H λc H1=>if c=true then tu σ H1 QB else QB false H1):=rfl
theorem zag7:tOr tt tu σ H QB=(tt σ H λc H1=>if c=true then QB true H1 else tu σ H1 QB):=rfl
theorem zacj:zwo ta tb σ H Q=(ta σ H λx H1=>∃ c,x=.bl c/\if c=true then tb σ H1 Q else Q (.bl false) H1):=rfl
theorem zaes:tOrV ta tb σ H Q=(ta σ H λx H1=>∃ c,x=.bl c/\if c=true then Q (.bl true) H1 else tb σ H1 Q):=rfl
theorem zack:zacc K ta σ H Q=(ta σ H λx H1=>∃ k,TruV K x H1 k/\Q (.bl (!k)) H1):=rfl
theorem zaet:tTru K ta σ H QB=(ta σ H λx H'=>∃ k,TruV K x H' k/\QB k H'):=rfl
theorem zag8:tIf tt ta tb σ H Q=(tt σ H λc H1=>if c=true then ta σ H1 Q else tb σ H1 Q):=rfl
theorem zaeu:tNil σ H QA=(QA [] H):=rfl
theorem zacl:zad ta as σ H QA=(ta σ H λx H1=>as σ H1 λxs H2=>QA (x::xs) H2):=rfl
theorem zaev:tTup as σ H Q=(as σ H λxs H1=>xs.length<=sizeLine/\∀ p,H1 p=none->Q (.ref p) (upd H1 p (.tup xs))):=rfl
theorem zaew:tLst as σ H Q=(as σ H λxs H1=>xs.length<=sizeLine/\∀ p,H1 p=none->Q (.ref p) (upd H1 p (.lst xs))):=rfl
theorem zacm:zdl sp dvs E as σ H Q=(as σ H λvs H1=>sp (vs++dvs) H1 Q (E σ)):=rfl
theorem zacn:zb5 C m sp dvs E ta as σ H Q=(ta σ H λx H1=>∃ a dx fs,x=.ref a/\H1 a=some (.ins C dx fs)/\fs.lookup m=none/\as σ H1 λvs H2=>sp (x::(vs++dvs)) H2 Q (E σ)):=rfl
theorem zaco:zws C sp dvs E as σ H Q=(as σ H λvs H1=>∀ x dx,H1 x=none->H1 dx=none->dx≠x->sp (.ref x::(vs++dvs)) (upd (upd H1 dx (.own x)) x (.ins C dx [])) (λv H2=>v=.non/\Q (.ref x) H2) (E σ)):=rfl
theorem zaex:tFld K ta f σ H Q=(ta σ H λx H1=>∃ a C dx fs v,x=.ref a/\H1 a=some (.ins C dx fs)/\Cls K C/\NoAttr K C f/\fs.lookup f=some v/\Q v H1):=rfl
theorem zaey:sFld K ta tv f D σ H=(tv σ H λy H1=>ta σ H1 λx H2=>∃ a C dx fs,x=.ref a/\H2 a=some (.ins C dx fs)/\Cls K C/\NoAttr K C f/\fs.length<1000/\D.nx σ (upd H2 a (.ins C dx (putF f y fs)))):=rfl
theorem zag9{ru:V->Hp->VK->Prop}:tUn ru ta σ H Q=ta σ H λx H1=>ru x H1 Q:=rfl
theorem zaha{rc:List V->Hp->VK->Prop}:tCB rc as σ H Q=as σ H λvs H1=>rc vs H1 Q:=rfl
theorem zaaw:zqo C E as D σ H=(as σ H λvs H1=>vs.length<=sizeLine/\E σ (.ref C) none H1):=rfl
theorem zaez{sb:(St->XK)->TS}{th:TH}:tTry sb th D σ H=sb (λσ' cls _ H'=>th cls D σ' H') D σ H:=rfl
theorem zacp:zaz i v σ H QG=(QG (σ.set i (some v)) H):=rfl
theorem zae0{rs:TSet}:gSub to ti rs v σ H QG=to σ H λo H1=>ti σ H1 λi H2=>rs o i v H2 λH3=>QG σ H3:=rfl
theorem zae1:gTup K k gs v σ H QG=(∃ a xs,v=.ref a/\SqT K H a xs/\xs.length=k/\gs xs σ H QG):=rfl
theorem zae2:gNil vs σ H QG=((vs=[]/\QG σ H)):=rfl
theorem zacq:zyw g gs vs σ H QG=(∃ v r,vs=v::r/\g v σ H λσ' H'=>gs r σ' H' QG):=rfl
theorem zahb{rs:V->Option Int->Option Int->Hp->VK->Prop}{ol oh:TO}:tSl rs ta ol oh σ H Q=ta σ H λx H1=>ol σ H1 λl H2=>oh σ H2 λu H3=>rs x l u H3 Q:=rfl
theorem zy6:zth σ H QO=(QO none H):=rfl
theorem zacr:zab1 ta σ H QO=(ta σ H λx H1=>∃ i,x=.int i/\QO (some i) H1):=rfl
theorem zahc{T:String}{rm:V->List V->Hp->VK->Prop}:tBM K T rm ta as σ H Q=ta σ H λx H1=>tyV K T x H1/\as σ H1 λxs H2=>rm x xs H2 Q:=rfl
theorem zae3{T:String}{rm:V->List V->Hp->VK->Prop}:tBM0 K T rm ta σ H Q=ta σ H λx H1=>tyV K T x H1/\rm x [] H1 Q:=rfl
theorem zae4{tip:TIp}:tAug i ta tip D σ H=∃ x,σ[i]? =some (some x)/\ta σ H λy H1=>tip x y H1 λz H2=>D.nx (σ.set i (some z)) H2:=rfl
theorem zacs:zlu σ H QB=(QB true H):=rfl
theorem ztt:zlv (ziw as) g tt te k cap σ H Q=(as σ H λvs H1=>∃ j:Int,vs=[.int j]/\ -(2 ^ 62)<=j/\j<2 ^ 62/\zts (Itr 0 j.toNat) g tt te k cap σ H1 Q):=rfl
theorem ztu:zlv (zagb as) g tt te k cap σ H Q=(as σ H λvs H1=>∃ i j:Int,vs=[.int i,.int j]/\(-(2 ^ 62)<=i/\i<2 ^ 62/\ -(2 ^ 62)<=j/\j<2 ^ 62)/\zts (Itr i (j - i).toNat) g tt te k cap σ H1 Q):=rfl
theorem zu9:zlv (iSeq K tl) g tt te k cap σ H Q=(tl σ H λx H1=>∃ a,x=.ref a/\(((∃ xs,SqL K H1 a xs)/\zts (Itl K a) g tt te k cap σ H1 Q)\/((∃ xs,SqT K H1 a xs)/\zts (Itt K a) g tt te k cap σ H1 Q))):=rfl
theorem zva:tFor (ziw as) g s1 D σ H=(as σ H λvs H1=>∃ j:Int,vs=[.int j]/\ -(2 ^ 62)<=j/\j<2 ^ 62/\zoy (Itr 0 j.toNat) g s1 D σ H1):=rfl
theorem zvb:tFor (zagb as) g s1 D σ H=(as σ H λvs H1=>∃ i j:Int,vs=[.int i,.int j]/\(-(2 ^ 62)<=i/\i<2 ^ 62/\ -(2 ^ 62)<=j/\j<2 ^ 62)/\zoy (Itr i (j - i).toNat) g s1 D σ H1):=rfl
theorem zw0:tFor (iSeq K tl) g s1 D σ H=(tl σ H λx H1=>∃ a,x=.ref a/\(((∃ xs,SqL K H1 a xs)/\zoy (Itl K a) g s1 D σ H1)\/((∃ xs,SqT K H1 a xs)/\zoy (Itt K a) g s1 D σ H1))):=rfl
theorem zy7{rd:V->V->Hp->VK->Prop}:zwr K ta tv rd f D σ H=(ta σ H λx H1=>∃ a C dx fs v,x=.ref a/\H1 a=some (.ins C dx fs)/\Cls K C/\NoAttr K C f/\fs.lookup f=some v/\tv σ H1 λy H2=>rd v y H2 λz H3=>∃ dx' fs',H3 a=some (.ins C dx' fs')/\fs'.length<1000/\D.nx σ (upd H3 a (.ins C dx' (putF f z fs')))):=rfl
end
end L2
set_option linter.all false
namespace L2
open PySem PySem.Spec PyProof.Rows
section
variable{K:PySem.W.Frag}{σ:St}{H:Hp}{Q:VK}{P:Bool->Prop}{PI':Int->Prop}{PV:V->Prop}{QB:Bool->Hp->Prop}{v:V}{x:Option V}{i j:Int}{n:Nat}{b b':Bool}{s s':Str}{p q:Addr}{f:Int->Int->V}{C:Int->Int->Prop}
def tVr(i:Nat):TE:=λσ H Q=>match σ[i]? with
 | some (some v)=>Q v H
 | _=>False
theorem zail:tVr 0 (some v::σ) H Q=Q v H:=rfl
theorem zaim:tVr (n+1) (x::σ) H Q=tVr n σ H Q:=rfl
theorem zahd(i:Nat):tVr i=tVar i:=by
 funext σ H Q
 unfold tVr tVar
 cases σ[i]? with
 | none=>simp
 | some o=>cases o<;>simp
theorem zain{P:Bool->Prop}:(∃ k,V.bl b=V.bl k/\P k)=P b:=by simp
theorem zahe{P:Int->Prop}:(∃ k,V.int i=V.int k/\P k)=P i:=by simp
theorem zahf{P:Addr->Prop}:(∃ k,V.ref p=V.ref k/\P k)=P p:=by simp
theorem zaax{P:Bool->Prop}:(∃ k,TruV K (.bl b) H k/\P k)=P b:=by simp[TruV]
theorem zy8{P:Bool->Prop}:(∃ k,TruV K (.int i) H k/\P k)=P (i != 0):=by simp[TruV]
theorem zy9{P:Bool->Prop}:(∃ k,TruV K .non H k/\P k)=P false:=by simp[TruV]
theorem zae5:zfz K (.int i) (.int j) H Q=Q (.int (i+j)) H:=rfl
theorem zae6:zfz K (.str s) (.str s') H Q=(s.length+s'.length<=sizeLine/\Q (.str (s++s')) H):=rfl
theorem zae7:zfz K (.ref p) (.ref q) H Q=(rCat (.ref p) (.ref q) H Q\/zad6 K (.ref p) (.ref q) H Q\/zaao K (.ref p) (.ref q) H Q):=rfl
theorem zahg{x y:Str}:rLeA (.str x) (.str y) H Q=Q (.bl (!decide (y.cps.toList<x.cps.toList))) H:=rfl
theorem zahh{x y:Str}:rLtA (.str x) (.str y) H Q=Q (.bl (decide (x.cps.toList<y.cps.toList))) H:=rfl
theorem zahi{x:Str}{lo hi:Option Int}:rSlA K (.str x) lo hi H Q=(x.length<=sizeLine/\Q (.str (Txt.slice x lo hi)) H):=rfl
theorem zae8:zj1 K (.int i) (.int j) H Q=(CMul i j/\Q (.int (i * j)) H):=rfl
theorem zaay{z:Str}{j:Int}:zj1 K (.str z) (.int j) H Q=(0<=j/\j<=1000/\z.length<=1000/\Q (.str (repS z j)) H):=rfl
theorem zae9:zj1 K (.ref p) (.int j) H Q=(rRep (.ref p) (.int j) H Q\/zaei K (.ref p) (.int j) H Q):=rfl
theorem zaio:rI0 f (.int i) (.int j) H Q=Q (f i j) H:=by simp[rI0]
theorem rI_i:rI C f (.int i) (.int j) H Q=(C i j/\Q (f i j) H):=by simp[rI]
theorem rU_i{g:Int->V}:rU g (.int i) H Q=Q (g i) H:=by simp[rU]
theorem zahj:rLtA (.int i) (.int j) H Q=Q (.bl (decide (i<j))) H:=rfl
theorem zahk:rLeA (.int i) (.int j) H Q=Q (.bl (decide (i<=j))) H:=rfl
theorem zahl:rGtA (.int i) (.int j) H Q=Q (.bl (decide (j<i))) H:=rfl
theorem zahm:rGeA (.int i) (.int j) H Q=Q (.bl (decide (j<=i))) H:=rfl
theorem zadm:rEqA K (.int i) (.int j) H Q=Q (.bl (decide (i=j))) H:=by simp[rEqA,scal]
theorem zahn:rEqA K (.str s) (.str s') H Q=Q (.bl (decide (s=s'))) H:=by simp[rEqA,scal]
theorem zaho:rEqA K (.bl b) (.bl b') H Q=Q (.bl (decide (b=b'))) H:=by simp[rEqA,scal]
theorem zafa:rEqA K .non (.int j) H Q=Q (.bl false) H:=by simp[rEqA,scal]
theorem zafb:rEqA K (.int j) .non H Q=Q (.bl false) H:=by simp[rEqA,scal]
theorem zafc:rEqA K .non .non H Q=Q (.bl true) H:=by simp[rEqA,scal]
theorem zadn:rNeA K (.int i) (.int j) H Q=Q (.bl (!decide (i=j))) H:=by simp[rNeA,scal]
theorem zado:rNeA K (.str s) (.str s') H Q=Q (.bl (!decide (s=s'))) H:=by simp[rNeA,scal]
theorem zahp:rNeA K (.bl b) (.bl b') H Q=Q (.bl (!decide (b=b'))) H:=by simp[rNeA,scal]
theorem zafd:rNeA K .non (.int j) H Q=Q (.bl true) H:=by simp[rNeA,scal]
theorem zafe:rNeA K (.int j) .non H Q=Q (.bl true) H:=by simp[rNeA,scal]
theorem zaaz:rNeA K .non .non H Q=Q (.bl false) H:=by simp[rNeA,scal]
theorem zaff:rIsN v .non H Q=Q (.bl (decide (v=.non))) H:=by simp[rIsN]
theorem zact:zag4 v .non H Q=Q (.bl (!decide (v=.non))) H:=by simp[zag4]
theorem zaip{g:Int->Int->Int}:ipI g (.int i) (.int j) H Q=Q (.int (g i j)) H:=by simp[ipI]
theorem zahq:rAdd (.int i) (.int j) H Q=Q (.int (i+j)) H:=by simp[rAdd]
theorem zaiq:zbf K [v] H Q=∃ n:Nat,LenV K v H n/\Q (.int n) H:=by simp[zbf]
theorem zair:zie K [.bl b] H Q=Q (.int (if b then 1 else 0)) H:=by simp[zie]
theorem zais:zie K [.int i] H Q=Q (.int i) H:=by simp[zie]
theorem zadp:zeo K [.ref p] H Q=∃ ys,(SqL K H p ys\/SqT K H p ys)/\∀ l,H l=none->Q (.ref l) (upd H l (.lst ys)):=by simp[zeo]
theorem zafg:ze4 K [.ref p] H Q=∃ ys,((SqL K H p ys/\∀ l,H l=none->Q (.ref l) (upd H l (.tup ys)))\/(SqT K H p ys/\Q (.ref p) H)):=by simp[ze4]
end
theorem pvr{X:Cx}(i:Nat){x:Str}{pos:Pos}(hN:X.N[i]? =some x:=by rfl)(hv:Vis X.env.scope x:=by first | exact Or.inl rfl | exact Or.inr (Or.inl rfl) | exact Or.inr (Or.inr rfl))(hd:(x ==("__debug__":Str))=false:=by decide)
  (hcd:(x ==("__classdict__":Str))=false:=by decide):PE X (.Name x pos) (tVr i):=by
 rw[zahd]
 exact zaf8 hN hv hd hcd
end L2
set_option linter.all false
namespace L2
open PySem PySem.Spec PyProof.Rows
abbrev ends(Q:VK):Ends:={ nx:=λ_ H'=>Q .non H',rt:=Q }
abbrev capV(cap:List Nat)(σ:St):St:=cap.map λi=>(σ[i]?).join
section
variable{K:PySem.W.Frag}{te:TE}{cap:List Nat}{σ:St}{H:Hp}{Q:VK}
theorem zjw{lo:Int}{n:Nat}(hn:n<=sizeLine)(Pv:Nat->List V->Hp->Prop)(h0:Pv 0 [] H)(hs:∀ i ys H,i<n->ys.length=i->Pv i ys H->te (some (.int (lo+i))::capV cap σ) H λy H2=>Pv (i+1) (ys++[y]) H2)
  (hd:∀ ys H,ys.length=n->Pv n ys H->∀ p,H p=none->Q (.ref p) (upd H p (.lst ys))) :
  zts (Itr lo n) (zaz 0) zlu te 1 cap σ H Q:=by
 refine⟨λi m σ' ys H=>m=n - i/\i<=n/\ys.length=i/\(∃ x0,σ'=x0::capV cap σ)/\Pv i ys H,⟨n,by simp,Nat.zero_le _,rfl,⟨none,rfl⟩,h0⟩,?_⟩
 rintro i m σ' ys H ⟨rfl,hi,hl,⟨x0,rfl⟩,p⟩
 by_cases hlt:i<n
 ·refine .inr ⟨hlt,by omega,λx H' y=> ?_⟩
  obtain⟨e,y⟩:=y
  subst e y
  simp only[zaz,zlu,if_true]
  refine⟨_,λy H4 q=>⟨n - (i+1),by omega,rfl,hlt,?_,⟨_,rfl⟩,q⟩,hs i ys _ hlt hl p⟩
  rw[List.length_append,List.length_singleton,hl]
 ·have e:i=n:=by omega
  subst e
  exact .inl ⟨Nat.le_refl _,hd ys H hl p⟩
theorem zaa0{b:Addr}{xs:List V}(hn:xs.length<=sizeLine)(Pv:Nat->List V->Hp->Prop)(h0:Pv 0 [] H)(hq:∀ i ys H,i<=xs.length->Pv i ys H->SqL K H b xs)
  (hs:∀ i x ys H,xs[i]? =some x->ys.length=i->Pv i ys H->te (some x::capV cap σ) H λy H2=>Pv (i+1) (ys++[y]) H2)
  (hd:∀ ys H,ys.length=xs.length->Pv xs.length ys H->∀ p,H p=none->Q (.ref p) (upd H p (.lst ys))) :
  zts (Itl K b) (zaz 0) zlu te 1 cap σ H Q:=by
 refine⟨λi m σ' ys H=>m=xs.length - i/\i<=xs.length/\ys.length=i/\(∃ x0,σ'=x0::capV cap σ)/\Pv i ys H,⟨xs.length,by simp,Nat.zero_le _,rfl,⟨none,rfl⟩,h0⟩,?_⟩
 rintro i m σ' ys H ⟨rfl,hi,hl,⟨x0,rfl⟩,p⟩
 have q:=hq i ys H hi p
 by_cases hlt:i<xs.length
 ·refine .inr ⟨⟨xs,xs[i],q,by simp[hlt]⟩,by omega,λx H' y=> ?_⟩
  obtain⟨e,y⟩:=y
  subst e
  have hx:=y xs q
  simp only[zaz,zlu,if_true]
  refine⟨_,λy H4 q=>⟨xs.length - (i+1),by omega,rfl,hlt,?_,⟨_,rfl⟩,q⟩,hs i x ys _ hx hl p⟩
  rw[List.length_append,List.length_singleton,hl]
 ·have e:i=xs.length:=by omega
  subst e
  exact .inl ⟨⟨xs,q,Nat.le_refl _⟩,hd ys H hl p⟩
theorem zjb{b:Addr}{xs:List V}{g:TG}{tb:TS}{D:Ends}(Pv:Nat->St->Hp->Prop)(h0:Pv 0 σ H)(hl:∀ i σ H,i<=xs.length->Pv i σ H->SqL K H b xs)
  (hs:∀ i x σ H,xs[i]? =some x->Pv i σ H->g x σ H λσ2 H2=>tb { D with nx:=Pv (i+1),ct:=Pv (i+1),bk:=D.nx } σ2 H2) (hd:∀ σ H,Pv xs.length σ H->D.nx σ H):zoy (Itl K b) g tb D σ H:=zabu Pv h0 hl hs hd
theorem zacu{b:Addr}{xs:List V}{g:TG}{tb:TS}{D:Ends}(Pv:Nat->St->Hp->Prop)(h0:Pv 0 σ H)(hl:∀ i σ H,i<=xs.length->Pv i σ H->SqT K H b xs)
  (hs:∀ i x σ H,xs[i]? =some x->Pv i σ H->g x σ H λσ2 H2=>tb { D with nx:=Pv (i+1),ct:=Pv (i+1),bk:=D.nx } σ2 H2) (hd:∀ σ H,Pv xs.length σ H->D.nx σ H):zoy (Itt K b) g tb D σ H:=zadz Pv h0 hl hs hd
theorem zfw{lo:Int}{n:Nat}{g:TG}{tb:TS}{D:Ends}(Pv:Nat->St->Hp->Prop)(h0:Pv 0 σ H)
  (hs:∀ i σ H,i<n->Pv i σ H->g (.int (lo+i)) σ H λσ2 H2=>tb { D with nx:=Pv (i+1),ct:=Pv (i+1),bk:=D.nx } σ2 H2) (hd:∀ σ H,Pv n σ H->D.nx σ H):zoy (Itr lo n) g tb D σ H:=zzx Pv h0 hs hd
end
theorem zjx{K:PySem.W.Frag}{H:Hp}{x y:V}{t c:Value}{b:Bool}{Q:VK}(ty:TyX K H x t)(cv:ClsV y c)(k:PySem.W.kitOne K t c=some b)(q:Q (.bl b) H):zcz K [x,y] H Q:=⟨x,y,t,b,rfl,ty,.inl ⟨c,cv,k⟩,q⟩
theorem zza{K:PySem.W.Frag}{H:Hp}{x:V}{p:Addr}{ys:List V}{cs:List Value}{t:Value}{b:Bool}{Q:VK}(ty:TyX K H x t)(hs:SqT K H p ys)(hc:Paired ClsV ys cs)(k:PySem.W.kitAny K t cs=some b)(q:Q (.bl b) H):zcz K [x,.ref p] H Q:=⟨x,.ref p,t,b,rfl,ty,.inr ⟨p,ys,cs,rfl,hs,hc,k⟩,q⟩
theorem zaj{H:Hp}{p:Addr}{o:HO}(h:H p=none):Same H (upd H p o):=λb u e=>by rw[zag (zai e h)];exact e
theorem zfm{α β :Type}{F: α -> β ->Prop}:∀ {l:List α} {m:List β} {i:Nat} {y: β},Paired F l m->m[i]? =some y->∃ x,l[i]? =some x/\F x y
  | _,_,_,_,.nil,e=>by simp at e
  | _,_,0,_,.cons r _,e=>by simp at e;subst e;exact⟨_,rfl,r⟩
  | _,_,i+1,y,.cons _ t,e=>by
    obtain⟨u,h1,h2⟩:=zfm (i:=i) (y:=y) t (by simpa using e)
    exact⟨u,by simpa using h1,h2⟩
theorem zs5{α β :Type}{F: α -> β ->Prop}{x: α}{y: β}(r:F x y):∀ {l:List α} {m:List β} (i:Nat),Paired F l m->Paired F (l.set i x) (m.set i y)
 | _,_,_,.nil=>.nil
 | _,_,0,.cons _ t=>.cons r t
 | _,_,i+1,.cons q t=>.cons q (zs5 r i t)
theorem zh5{K:PySem.W.Frag}{H:Hp}{p:Addr}{xs:List V}{i:Int}{n:Nat}{v:V}{Q:VK}(h:SqL K H p xs)(hi:i=n)(hx:xs[n]? =some v)(q:Q v H):rIxA K (.ref p) (.int i) H Q :=
 .inl ⟨p,xs,i,v,rfl,rfl,h,hi ▸ zwu hx,q⟩
theorem zm1(n:Nat)(h:n<=100000):n<=sizeLine:=Nat.le_trans h (by decide)
theorem zafh{α :Type}(x: α):∀ w:Nat,(List.replicate w [x]).flatten=List.replicate w x
 | 0=>rfl
 | w+1=>by rw[List.replicate_succ,List.flatten_cons,zafh x w];rfl
theorem zb7{f:Str}{v:V}{fs:List (Str × V)}{n:Nat}(h:fs.length+1<n):(putF f v fs).length<n:=Nat.lt_of_le_of_lt (zic f v fs) h
theorem zyh{d:PyData}(h:shp d):PyData.eqv d d=true:=PySem.SeqAt.eqv_refl d (PySem.SeqAt.canLay_of_shaped h)
def vD:V->PyData
 | .bl b=>.bool b
 | .int i=>.int i
 | .str x=>.str x
 | _=>.none
def zs6:V->Bool
 | .non=>true
 | .bl _=>true
 | .int _=>true
 | .str x=>PyData.strOk x
 | _=>false
theorem zacv{K:PySem.W.Frag}{H:Hp}{v:V}(h:zs6 v=true):Rep K H v (vD v):=by
 cases v<;>first | exact .non | exact .bl _ | exact .int _ | exact .str _ | cases h
theorem zkk{K:PySem.W.Frag}{H:Hp}:∀ {vs:List V},(∀ v∈vs,zs6 v=true)->RepAll K H vs (vs.map vD)
 | [],_=>.nil
 | v::r,h=>.cons (zacv (h v List.mem_cons_self)) (zkk λx hx=>h x (List.mem_cons_of_mem _ hx))
theorem zacw{v:V}(h:zs6 v=true):(vD v).canLay0=true/\(vD v).depth=0:=by
 cases v<;>first | exact⟨rfl,rfl⟩ | exact⟨h,rfl⟩ | cases h
theorem zqp:∀ {vs:List V},(∀ v∈vs,zs6 v=true)->PyData.canLayAll0 (vs.map vD)=true/\PyData.depthAll (vs.map vD)=0
  | [],_=>⟨rfl,rfl⟩
  | v::r,h=>by
    obtain⟨a,b⟩:=zacw (h v List.mem_cons_self)
    obtain⟨c,d⟩:=zqp λx hx=>h x (List.mem_cons_of_mem _ hx)
    simp[PyData.canLayAll0,PyData.depthAll,a,b,c,d]
theorem ztv{vs:List V}(h:∀ v∈vs,zs6 v=true):shp (.list (vs.map vD)):=by
 obtain⟨c,d⟩:=zqp h
 unfold shp PySem.SeqAt.shaped
 simp[PyData.canLay0,PyData.depth,c,d]
theorem zafi{K:PySem.W.Frag}{H:Hp}{p q:Addr}{xs:List V}{Q:VK}(h1:SqL K H p xs)(h2:SqL K H q xs)(hf:∀ v∈xs,zs6 v=true)(hq:Q (.bl true) H):rEqA K (.ref p) (.ref q) H Q:=by
 unfold rEqA
 rw[if_neg (by simp[scal])]
 refine⟨_,_,.lst h1 (zkk hf),.lst h2 (zkk hf),ztv hf,ztv hf,?_⟩
 rw[zyh (ztv hf)]
 exact hq
end L2
set_option linter.all false
set_option maxRecDepth 100000
set_option maxHeartbeats 4000000
namespace L2
open PySem PySem.Spec PyProof.Rows
def ItK(k:Bool)(h:Heap)(j a:Addr)(i:Nat):Prop:=if k then h.IsListIter j a i else h.IsTupleIter j a i
def SeqK(k:Bool)(h:Heap)(a:Addr)(xs:Array Value):Prop:=if k then h.IsList a xs else h.IsTuple a xs
theorem ItK.up{k:Bool}{h h':Heap}{j a:Addr}{i:Nat}(x:ItK k h j a i)(q:∀ o,h.get? j=some o->h'.get? j=some o):ItK k h' j a i:=by
 cases k<;>exact(let ⟨o,e,r⟩:=x;⟨o,q o e,r⟩)
theorem SeqK.up{k:Bool}{h h':Heap}{a:Addr}{xs:Array Value}(x:SeqK k h a xs)(q:∀ o,h.get? a=some o->h'.get? a=some o):SeqK k h' a xs:=by
 cases k<;>exact(let ⟨o,e,r⟩:=x;⟨o,q o e,r⟩)
theorem ItK.ob{k:Bool}{h:Heap}{j a:Addr}{i:Nat}(x:ItK k h j a i):∃ o,h.get? j=some o/\o.data=.fields #[.ref a,.int i 0]:=by
 cases k<;>exact(let ⟨o,e,_,r⟩:=x;⟨o,e,r⟩)
section
variable{P:Program}{w:World}{A:Around}{E:Value->Shared->Prop}{s:Shared}
theorem zafj{j t:Addr}{i:Nat}{its:Array Value}{Q:Value->Shared->Prop}(z:A.handled=none)(c:s.heap.IsTupleIter j t i)(d:s.heap.IsTuple t its)(e:its[i]? =none)
  (q:∀ h' x,Heap.ExtBut j s.heap h'->(∃ o,h'.get? x=some o/\o.cls=.type "StopIteration")->E (.ref x) { s with heap:=h' }):wpAny (model P w) A (Builtin.SmallTypes.nextOf (.ref j)) Q E s:=by
 obtain⟨oj,e1,e2,e3⟩:=id c
 obtain⟨ot,f1,_,n,f2⟩:=d
 unfold Builtin.SmallTypes.nextOf
 refine wpAny_bind (wpAny_callSpecial?_slot (name:=Str.ofString "__next__") c.typeIs F.slot_tuple_iterator_next (wpAny_call_entry F.slot_tuple_iterator_next c.typeIs F.entry_tuple_iterator_next ?_ (F.args_tuple_iterator_next_1 _)))
 show wpAny (model P w) _ (field (.ref j) 0 >>= _) _ _ s
 refine wpAny_bind (wpAny_field e1 e3 (x:=.ref t) rfl ?_)
 show wpAny (model P w) _ (field (.ref j) 1 >>= _) _ _ s
 refine wpAny_bind (wpAny_field e1 e3 (x:=.int i 0) rfl ?_)
 show wpAny (model P w) _ (seqItems? (.ref t) >>= _) _ _ s
 refine wpAny_bind (wpAny_seqItems f1 f2 ?_)
 simp only[Int.toNat_natCast,e]
 refine wpAny_bind (wpAny_rule (wpAny_bind (wpAny_setField e1 e3 (by simp) ?_)))
 show wpAny (model P w) _ (newExc (.type "StopIteration") [] >>= _) _ _ _
 refine wpAny_bind ?_
 simp only[newExc,newTuple]
 refine wpAny_bind (wpAny_newObj_type (wpAny_bind (m:=firstArgMember _ _) (wpAny_of_eq (a:=Value.none) (by first | rfl | (simp only[firstArgMember];rfl)) (wpAny_newObj_type ?_ (by size_fits)))) (by size_fits))
 simp only[raiseNew]
 refine wpAny_bind (wpAny_handled ?_)
 rw[show A.in1.handled=none from z]
 exact wpAny_bind (wpAny_pure (wpAny_throw (q _ _ (((Heap.SameBut.update ..).extBut.push _).push _) ⟨_,Heap.get?_push_size _ rfl,rfl⟩)))
theorem zait{k:Bool}{j t:Addr}{i:Nat}{its:Array Value}{Q:Value->Shared->Prop}(z:A.handled=none)(c:ItK k s.heap j t i)(d:SeqK k s.heap t its)(e:its[i]? =none)
  (q:∀ h' x,Heap.ExtBut j s.heap h'->(∃ o,h'.get? x=some o/\o.cls=.type "StopIteration")->E (.ref x) { s with heap:=h' }):wpAny (model P w) A (Builtin.SmallTypes.nextOf (.ref j)) Q E s:=by
 cases k
 ·exact zafj z c d e q
 ·exact wpAny_nextOf_list_end z c d e q
end
section
variable{P:Program}{w:World}{A:Around}{E:Value->Shared->Prop}{s:Shared}
end
theorem Inv.turnedS{X:Cx}{pins:List (Addr × Obj)}{σ:St}{H:Hp}{s:Shared}{h':Heap}{t':Nat}{fp:List Addr}(I:Inv X pins σ H s)(k:∀ b o,b∉fp->s.heap.get? b=some o->h'.get? b=some o)(hf:∀ b∈fp,FpOk X pins H b):Inv X pins σ H { s with heap:=h',toks:=t' }:=by
 have nit:∀ b u,H b=some u->b∉fp:=λb u e z=>by rw[(hf b z).1]at e;cases e
 refine I.step (g':=s.gens) (d':=s.drawn) (ch:=fp) (λb hb=> ?_) (λb o _ _ hc e _=>k b o hc e) (λb o _ _ hc e _=>⟨o.slots,k b o hc e⟩) (λ_ _ _ _ n=>n)
  (λb o hc e=>⟨o,k b o hc e⟩) (λ_ _ e=>e) (λ_ _ _ e=>e) (λb ps e=>⟨#[],by rw[e];simp⟩) (λm hm=> ?_) (λb u e=> ?_) I.bare
 ·obtain⟨_,f1,_,f3,f4,f5⟩:=hf b hb
  exact⟨f3,f1,f4,f5⟩
 ·obtain⟨o,es,ep,ho,r⟩:=hm
  exact⟨o,es,ep,k _ o (λz=>(hf _ z).2.1 rfl) ho,r⟩
 ·refine(I.hok b u e).stay (λc v hc q=>k c v ?_ q) (λ_ q=>q) λ_ _ q=>q
  rcases hc with z | z
  ·rw[z];exact nit b u e
  ·exact nit c _ z
def SqB(K:PySem.W.Frag)(k:Bool)(H:Hp)(a:Addr)(xs:List V):Prop:=if k then SqL K H a xs else SqT K H a xs
theorem Inv.seqK{X:Cx}{pins:List (Addr × Obj)}{σ:St}{H:Hp}{s:Shared}{k:Bool}{a:Addr}{xs:List V}(I:Inv X pins σ H s)(q:SqB X.K k H a xs):∃ its,Vals xs its/\SeqK k s.heap a its.toArray:=by
 cases k
 ·obtain⟨its,rv,p,_⟩:=I.tuple q
  exact⟨its,rv,p⟩
 ·obtain⟨its,rv,p,_⟩:=I.list q
  exact⟨its,rv,p.isList⟩
theorem Inv.seqK_inj{X:Cx}{pins:List (Addr × Obj)}{σ:St}{H:Hp}{s:Shared}{k:Bool}{a:Addr}{xs ys:List V}(I:Inv X pins σ H s)(p:SqB X.K k H a xs)(q:SqB X.K k H a ys):xs=ys:=by
 cases k
 ·exact I.tuple_inj p q
 ·exact I.list_inj p q
theorem SeqK.lt{k:Bool}{h:Heap}{a:Addr}{xs:Array Value}(x:SeqK k h a xs):a<h.objs.size:=by
 cases k<;>exact(let ⟨_,e,_⟩:=x;Heap.lt_size e)
theorem SeqK.nit{k:Bool}{h:Heap}{a b:Addr}{xs:Array Value}(x:SeqK k h a xs){o:Obj}(e:h.get? b=some o)(n:∀ its m,o.data≠.seq its m):a≠b:=by
 intro z
 subst z
 cases k<;>(obtain⟨o',e',_,m,d⟩:=x;rw[e]at e';cases e';exact n _ _ d)
def ZipSt(k k':Bool)(z l l':Addr)(f:Value)(i:Nat)(h:Heap)(T U j j':Addr):Prop :=
 IsZip h z T U f/\IsPair h T (.ref j) (.ref j')/\(∃ a b,IsPair h U a b)/\ItK k h j l i/\ItK k' h j' l' i
structure Five(z T U j j':Addr):Prop where
 a1:T≠z
 a2:U≠z
 a3:j≠z
 a4:j'≠z
 a5:T≠U
 a6:T≠j
 a7:T≠j'
 a8:U≠j
 a9:U≠j'
 a10:j≠j'
theorem SqB.off{X:Cx}{pins:List (Addr × Obj)}{σ:St}{H:Hp}{s:Shared}{k:Bool}{m b:Addr}{zs:List V}(I:Inv X pins σ H s)(q:SqB X.K k H m zs)(f:FpOk X pins H b):m≠b:=by
 intro e
 subst e
 obtain⟨f0,_,_,f3,_⟩:=f
 have no:∀ o,X.K.lookup m=some o->False:=λo hk=>by
  have e:=I.mod.kin m o hk
  rcases f3 with z | z
  ·exact I.ok.noex _ _ e z
  ·exact absurd (Heap.lt_size (I.ok.bs _ _ e).1) (Nat.not_lt.mpr z)
 have nr:∀ u,Rd H m u->False:=λu r=>by
  rcases r with r | ⟨o,r⟩<;>(rw[f0]at r;cases r)
 cases k
 ·rcases q with q | ⟨o,_,_,hk,_⟩
  ·exact nr _ q
  ·exact no o hk
 ·rcases q with q | ⟨o,_,_,hk,_⟩
  ·exact nr _ q
  ·exact no o hk
theorem FpOk.upd{X:Cx}{pins:List (Addr × Obj)}{H:Hp}{a b:Addr}{o:HO}(f:FpOk X pins H b)(n:b≠a):FpOk X pins (upd H a o) b:=⟨(zag n).trans f.1,f.2⟩
theorem ZipSt.lt{k k':Bool}{z l l' T U j j':Addr}{f:Value}{i:Nat}{h:Heap}(q:ZipSt k k' z l l' f i h T U j j'):∀ b∈[z,T,U,j,j'],b<h.objs.size:=by
 obtain⟨h1,h2,⟨a,b',h3⟩,h4,h5⟩:=q
 obtain⟨o4,e4,_⟩:=h4.ob
 obtain⟨o5,e5,_⟩:=h5.ob
 intro b hb
 simp only[List.mem_cons,List.not_mem_nil,or_false]at hb
 rcases hb with rfl | rfl | rfl | rfl | rfl
 ·exact Heap.lt_size h1
 ·exact Heap.lt_size h2
 ·exact Heap.lt_size h3
 ·exact Heap.lt_size e4
 ·exact Heap.lt_size e5
theorem Five.apart{z T U j j' l l':Addr}(D:Five z T U j j')(n:∀ b∈[z,T,U,j,j'],l≠b)(n':∀ b∈[z,T,U,j,j'],l'≠b):ZipApart z T U j j' l l' :=
 ⟨D.a1,D.a2,D.a3,D.a4,D.a5,D.a6,D.a7,D.a8,D.a9,D.a10,n _ (by simp),n _ (by simp),n _ (by simp),n _ (by simp),n' _ (by simp),n' _ (by simp),n' _ (by simp),n' _ (by simp)⟩
section
variable{X:Cx}{tg:Expr}
end
theorem Fun.none{P:Program}{w:World}{K:PySem.W.Frag}{mg:Str->Option Value}{base:Heap}{x qual:Str}{st:Stmt}{f:Addr}{fd:FuncData}{N ps:List Str}{k:Nat}{sp:Sp}(F:Fun K x qual st f fd)(S:zaq N ps (zab st))(no:∀ vs H Q E,sp vs H Q E->False):FnOk P w K mg base (cxE P w) (k+1) f fd ps sp :=
 F.okE S (λvs H Q E h=>(no vs H Q E h).elim) λ_ _ _ _ H vs Q E _ h=>(no vs H Q E h).elim
end L2
set_option linter.all false
set_option maxRecDepth 100000
set_option maxHeartbeats 4000000
namespace L2
open PySem PySem.Spec PyProof.Rows
section
variable{X:Cx}{tg:Expr}
def zw1(K:PySem.W.Frag):List V->Hp->VK->Prop:=λxs H Q=>∃ i j,xs=[.int i,.int j]/\Q (.int (if j > i then j else i)) H
end
theorem zaiu{K:PySem.W.Frag}{i j:Int}{H:Hp}{Q:VK}:zw1 K [.int i,.int j] H Q=Q (.int (if j > i then j else i)) H:=propext ⟨λ⟨_,_,e,q⟩=>by cases e;exact q,λq=>⟨_,_,rfl,q⟩⟩
section
variable{P:Program}{w:World}{A:Around}{E:Value->Shared->Prop}{s:Shared}
end
section
variable{X:Cx}
def ups(k:Nat):List V:=(List.range k).map λ(i:Nat)=>V.int (i:Int)
end
end L2
set_option linter.all false
namespace L2
open PySem
abbrev zkf(l:List Nat):Prop:=l.Pairwise (· <·)
theorem zjc{l:List Nat}(R:zkf l){i k a b:Nat}(h:i<k)(ha:l[i]? =some a)(hb:l[k]? =some b):a<b:=by
 obtain⟨h1,rfl⟩:=List.getElem?_eq_some_iff.mp ha
 obtain⟨h2,rfl⟩:=List.getElem?_eq_some_iff.mp hb
 exact List.pairwise_iff_getElem.mp R i k h1 h2 h
structure Below(xs:Array Nat)(j r:Nat):Prop where
 le:r<=xs.size
 lo:∀ i v,i<r->xs.toList[i]? =some v->v<j
 hi:∀ i v,r<=i->xs.toList[i]? =some v->j<=v
theorem ztw {xs:Array Nat} {j:Nat} (R:zkf xs.toList):∀ (fuel lo hi:Nat),lo<=hi->hi<=xs.size->hi - lo<=fuel->(∀ i v,i<lo->xs.toList[i]? =some v->v<j)->(∀ i v,hi<=i->xs.toList[i]? =some v->j<=v) →
    Below xs j (SetTable.below.go xs j fuel lo hi)
  | 0,lo,hi,h1,h2,h3,a,b=>by
    have e:lo=hi:=by omega
    subst e
    exact⟨h2,a,b⟩
  | fuel+1,lo,hi,h1,h2,h3,a,b=>by
    unfold SetTable.below.go
    by_cases hlt:lo<hi
    · rw [if_pos hlt]
      have hm:(lo+hi) / 2<xs.size:=by omega
      have em:xs.toList[(lo+hi) / 2]? =some (xs[(lo+hi) / 2]):=by simp[hm]
      have ed:xs.getD ((lo+hi) / 2) j=xs[(lo+hi) / 2]:=by simp[hm]
      simp only[ed]
      split
      · rename_i hv
        refine ztw R fuel _ _ (by omega) h2 (by omega) (λi v hi' e=> ?_) b
        by_cases q:i=(lo+hi) / 2
        ·subst q;rw[em]at e;cases e;exact hv
        ·exact Nat.lt_trans (zjc R (show i<(lo+hi) / 2 by omega) e em) hv
      · rename_i hv
        refine ztw R fuel _ _ (by omega) (by omega) (by omega) a λi v hi' e=> ?_
        by_cases q:i=(lo+hi) / 2
        ·subst q;rw[em]at e;cases e;omega
        · have:=zjc R (show(lo+hi) / 2<i by omega) em e
          omega
    · rw[if_neg hlt]
      have e:lo=hi:=by omega
      subst e
      exact⟨h2,a,b⟩
theorem ztx{xs:Array Nat}{j:Nat}(R:zkf xs.toList):Below xs j (SetTable.below xs j) :=
 ztw R _ _ _ (Nat.zero_le _) (Nat.le_refl _) (by omega) (λ_ _ h=>absurd h (Nat.not_lt_zero _)) λi v h e=>by
  rw[List.getElem?_eq_none (by simpa using h)]at e;cases e
theorem Below.uniq{xs:Array Nat}{j r r':Nat}(a:Below xs j r)(b:Below xs j r'):r=r':=by
 rcases Nat.lt_trichotomy r r' with h | h | h
 ·have hs:r<xs.size:=Nat.lt_of_lt_of_le h b.le
  have e:xs.toList[r]? =some (xs[r]):=by simp[hs]
  have:=b.lo _ _ h e
  have:=a.hi _ _ (Nat.le_refl _) e
  omega
 ·exact h
 ·have hs:r'<xs.size:=Nat.lt_of_lt_of_le h a.le
  have e:xs.toList[r']? =some (xs[r']):=by simp[hs]
  have:=a.lo _ _ h e
  have:=b.hi _ _ (Nat.le_refl _) e
  omega
def NotIn(t:SetTable)(j:Nat):Prop:=t.place[SetTable.below t.place j]? ≠some j
theorem zw2{t:SetTable}{j:Nat}(h:t.slot j=.empty):NotIn t j:=λe=>by
 unfold SetTable.slot at h
 simp only[e,beq_self_eq_true,if_true]at h
 cases h
theorem zw3{t:SetTable}{j:Nat}(h:t.slot j=.dummy):NotIn t j:=λe=>by
 unfold SetTable.slot at h
 simp only[e,beq_self_eq_true,if_true]at h
 cases h
theorem zl0(t:SetTable)(p:SetTable.Probe):(t.advance p).dummy=p.dummy:=by
 unfold SetTable.advance
 split<;>rfl
theorem zty{t:SetTable}{f:Nat->Int}{h:Int}:∀ (fuel:Nat) (p:SetTable.Probe) (j:Nat) (d:Option Nat),SetTable.probe.go t f h fuel p=some (.empty j d)->(∀ x,p.dummy=some x->NotIn t x)->NotIn t (d.getD j)
  | 0,p,j,d,e,_=>by cases e
  | fuel+1,p,j,d,e,hd=>by
    unfold SetTable.probe.go at e
    split at e
    · rename_i hs
      cases e
      cases q:p.dummy with
      | none=>exact zw2 hs
      | some x=>exact hd x q
    · rename_i hs
      refine zty fuel _ j d e λx hx=> ?_
      rw[zl0]at hx
      cases hx
      exact zw3 hs
    · rename_i i hs
      split at e
      ·cases e
      ·exact zty fuel _ j d e λx hx=>by rw[zl0]at hx;exact hd x hx
theorem zrw{t:SetTable}{h:Int}{s:Nat}{b:Bool}(e:t.freeSlot h=some (s,b)):NotIn t s:=by
 unfold SetTable.freeSlot at e
 split at e
 ·rename_i j d hp
  cases e
  refine zty _ _ _ _ hp λx hx=> ?_
  cases hx
 ·cases e
theorem zvc(n:Nat):zkf (Array.range n).toList:=by
 rw[Array.toList_range]
 exact List.pairwise_lt_range
theorem zzb {t:SetTable} {j:Nat} (R:zkf t.place.toList) (h:NotIn t j):zkf (t.put j).1.place.toList:=by
  have b:=ztx (j:=j) R
  show zkf (SetTable.insertAt t.place (SetTable.below t.place j) j).toList
  rw[SetTable.toList_insertAt]
  have hlo:∀ v∈t.place.toList.take (SetTable.below t.place j),v<j:=λv hv=>by
    obtain⟨i,hi,e⟩:=List.getElem_of_mem hv
    have hi':i<SetTable.below t.place j:=by rw[List.length_take]at hi;omega
    refine b.lo i v hi' ?_
    rw[<-e];simp only[List.getElem_take];exact List.getElem?_eq_getElem _
  have hhi:∀ v∈t.place.toList.drop (SetTable.below t.place j),j<v:=λv hv=>by
    obtain⟨i,hi,e⟩:=List.getElem_of_mem hv
    have e2:t.place.toList[SetTable.below t.place j+i]? =some v:=by
      rw[<-List.getElem?_drop,List.getElem?_eq_getElem hi,e]
    have:=b.hi _ _ (Nat.le_add_right _ _) e2
    by_cases q:j=v
    · subst q
      have z:i=0:=by
        by_cases z:i=0
        ·exact z
        · have hl:SetTable.below t.place j<t.place.toList.length:=by
            rw[List.length_drop]at hi;omega
          have e3:=List.getElem?_eq_getElem hl
          have:=zjc R (show SetTable.below t.place j<SetTable.below t.place j+i by omega) e3 e2
          have:=b.hi _ _ (Nat.le_refl _) e3
          omega
      subst z
      rw[Nat.add_zero,Array.getElem?_toList]at e2
      exact absurd e2 h
    ·omega
  refine List.pairwise_append.mpr ⟨R.sublist (List.take_sublist ..),List.pairwise_cons.mpr ⟨hhi,R.sublist (List.drop_sublist ..)⟩,λx hx y hy=> ?_⟩
  rcases List.mem_cons.mp hy with rfl | hy
  ·exact hlo x hx
  ·exact Nat.lt_trans (hlo x hx) (hhi y hy)
structure Led(led:Bool)(t:SetTable):Prop where
 rise:zkf t.place.toList
 led:t.led=led
theorem Led.standIn{led:Bool}{t:SetTable}(h:t.led=led)(n:Nat):Led led (t.standIn n):=⟨zvc n,h⟩
theorem Led.or{led:Bool}{t:SetTable}(h:Led led t)(n:Nat):Led led (t.orStandIn n):=by
 unfold SetTable.orStandIn
 split
 ·exact h
 ·exact .standIn h.led n
theorem Led.layNew{led:Bool}{t:SetTable}(L:Led led t)(es:Array (Int × Value))(h:Int)(x:Value):Led led (layNew t es h x).2.1:=by
 unfold PySem.layNew
 split
 ·rename_i slot b e
  exact Led.or ⟨zzb L.rise (zrw e),L.led⟩ _
 ·exact .standIn L.led _
theorem zw4(owner:Array (Option Nat))(m:Nat):zkf (((List.range m).filterMap λj=>(owner.getD j none).map (j,·)).map (·.1)):=by
 rw[List.map_filterMap]
 refine(List.pairwise_lt_range (n:=m)).filterMap _ λa b hab x hx y hy=> ?_
 simp only[Option.mem_def,Option.map_map,Option.map_eq_some_iff,Function.comp_apply]at hx hy
 obtain⟨_,_,rfl⟩:=hx
 obtain⟨_,_,rfl⟩:=hy
 exact hab
theorem Led.relayAll{led:Bool}{t:SetTable}(h:t.led=led)(L:Led led t)(es:Array (Int × Value))(wanted:Nat):Led led (relayAll t es wanted).2.1:=by
 unfold PySem.relayAll
 split
 ·rename_i t' order e
  dsimp only
  split
  ·unfold SetTable.relaid SetTable.laid at e
   simp only[Option.bind_eq_bind,Option.bind_eq_some_iff,Option.pure_def,Option.some.injEq,Prod.mk.injEq]at e
   obtain⟨owner,_,rfl,_⟩:=e
   exact⟨by simpa using zw4 owner _,h⟩
  ·exact .standIn h _
 ·exact .standIn h _
theorem Led.plainOff{led:Bool}{t:SetTable}(L:Led led t):Led led { t with plain:=false }:=⟨L.rise,L.led⟩
theorem Led.fresh(led:Bool):Led led (.fresh 0 0 led):=⟨List.Pairwise.nil,rfl⟩
def zs7(xs:Array Nat):Nat->Nat
 | 0=>0
 | i+1=>xs.getD i 0+1
theorem zvd {xs:Array Nat} (R:zkf xs.toList):∀ {i:Nat},i<=xs.size->SetTable.below xs (zs7 xs i)=i
  | 0,_=>(ztx R).uniq ⟨Nat.zero_le _,λ_ _ h=>absurd h (Nat.not_lt_zero _),λ_ _ _ _=>Nat.zero_le _⟩
  | i + 1,hi=>(ztx R).uniq ⟨hi,λk v hk e=>by
      have hi':i<xs.size:=by omega
      have ei:xs.toList[i]? =some xs[i]:=by simp[hi']
      have ed:xs.getD i 0=xs[i]:=by simp[hi']
      show v<xs.getD i 0+1
      rw[ed]
      by_cases q:k=i
      ·subst q;rw[ei]at e;cases e;omega
      · have:=zjc R (show k<i by omega) e ei
        omega,λk v hk e=>by
      have hi':i<xs.size:=by omega
      have ei:xs.toList[i]? =some xs[i]:=by simp[hi']
      have ed:xs.getD i 0=xs[i]:=by simp[hi']
      show xs.getD i 0+1<=v
      rw[ed]
      exact zjc R (show i<k by omega) ei e⟩
theorem zaa1{α :Type}(next:Nat->Nat):∀ (fuel k:Nat) (left:List α) (out:Array α),left.length=fuel->List.Perm (pickOrder.go next fuel k left out).toList (out.toList++left)
  | 0,k,left,out,h=>by
    rw[List.length_eq_zero_iff.mp h]
    unfold pickOrder.go
    simp
  | fuel+1,k,left,out,h=>by
    unfold pickOrder.go
    have hl:next k % left.length<left.length:=Nat.mod_lt _ (by omega)
    rw[List.getElem?_eq_getElem hl]
    dsimp only
    refine(zaa1 next fuel (k+1) _ _ (by rw[List.length_eraseIdx_of_lt hl];omega)).trans ?_
    rw[Array.toList_push,List.append_assoc]
    refine List.Perm.append_left _ ?_
    rw[List.eraseIdx_eq_take_drop_succ]
    show List.Perm (left[next k % left.length]::(left.take (next k % left.length)++left.drop (next k % left.length+1))) left
    refine List.perm_middle.symm.trans ?_
    rw[<-List.drop_eq_getElem_cons hl,List.take_append_drop]
theorem zaa2{α :Type}(next:Nat->Nat)(xs:Array α):List.Perm (pickOrder next xs).toList xs.toList:=by
 have:=zaa1 next xs.size 0 xs.toList #[] (by simp)
 simpa [pickOrder]using this
end L2
set_option linter.all false
set_option maxRecDepth 100000
namespace L2
open PySem PyProof.Rows
def zw5(w:World):Bool:= !w.params.followText "set-order"
def iv:Value->Int
 | .int n _=>n
 | _=>0
def IntSet (P:Program) (w:World) (h:Heap) (a:Addr) (ms:List Int):Prop :=
  ∃ (o:Obj) (es:Array (Int × Value)) (ep:Nat) (t:SetTable),h.get? a=some o/\o.ExactSet/\o.data=.set es ep t/\ElemsOf (intKind P w) es.toList ∧
    List.Perm (es.toList.map λe=>iv e.2) ms/\es.size<scanBound/\t.fits es.size=true/\Led (zw5 w) t
section
variable{P:Program}{w:World}{A:Around}{E:Value->Shared->Prop}{s:Shared}
theorem ztz{es:List (Int × Value)}(h:ElemsOf (intKind P w) es){e:Int × Value}(he:e∈es):∃ t,e.2=.int (iv e.2) t:=by
 obtain⟨⟨k,hk,_⟩,_⟩:=h e he
 obtain⟨t,z⟩:=Value.isInt_shape hk
 exact⟨t,by rw[z];rfl⟩
theorem zaa3{es:List (Int × Value)}(h:ElemsOf (intKind P w) es){e:Int × Value}(he:e∈es){k:Int}:(intKind P w).is k e.2=true↔iv e.2=k:=by
 obtain⟨t,z⟩:=ztz h he
 rw[z]
 refine⟨λq=> ?_,λq=> ?_⟩
 ·have q':Value.isInt k (.int (iv e.2) t)=true:=q
  obtain⟨t',z'⟩:=Value.isInt_shape q'
  cases z';rfl
 ·rw[<-q];exact intKind_is ..
theorem zve{es:List (Int × Value)}{ms:List Int}(h:ElemsOf (intKind P w) es)(p:List.Perm (es.map λe=>iv e.2) ms)(k:Int):k∈ms↔∃ e∈es,(intKind P w).is k e.2=true:=by
 rw[<-p.mem_iff,List.mem_map]
 exact⟨λ⟨e,he,q⟩=>⟨e,he,(zaa3 h he).mpr q⟩,λ⟨e,he,q⟩=>⟨e,he,(zaa3 h he).mp q⟩⟩
theorem zaa4{h:Heap}{a:Addr}{o:Obj}{es es':Array (Int × Value)}{ep:Nat}{t t':SetTable}{ms:List Int}(ho:h.get? a=some o)(hex:o.ExactSet)(hd:o.data=.set es ep t)
  (hel:ElemsOf (intKind P w) es'.toList) (hp:List.Perm (es'.toList.map λe=>iv e.2) ms) (hb:es'.size<scanBound) (hf:t'.fits es'.size=true) (L:Led (zw5 w) t') :
  (h.update a (Obj.putSet es' t')).get? a=some { o with data:=.set es' (ep+1) t' }/\IntSet P w (h.update a (Obj.putSet es' t')) a ms:=by
 have g:=(SetOf_store (knd:=intKind P w) (S':=λk=>es'.toList.any λe=>(intKind P w).is k e.2) ho hex hd hel (λk=>by rw[List.any_eq_true]) hb hf).1
 exact⟨g,_,es',ep+1,t',g,hex,rfl,hel,hp,hb,hf,L⟩
theorem zyi {g:Bool->Sem Unit} (hg:∀ (b:Bool) (s1:Shared) (R:Unit->Shared->Prop),R () s1->wpAny (model P w) A (g b) R E s1) {a:Addr} {o:Obj} {es e1:Array (Int × Value)} {ep:Nat} {t t1:SetTable} {ms:List Int} {wd:Bool}
    (ho:s.heap.get? a=some o) (hex:o.ExactSet) (hd:o.data=.set es ep t) (hel:ElemsOf (intKind P w) e1.toList) (hp:List.Perm (e1.toList.map λe=>iv e.2) ms) (hb:e1.size<scanBound) (hf:t1.fits e1.size=true) (L:Led (zw5 w) t1)
    {R:Option Bool->Shared->Prop} (h:∀ h',Heap.SameBut a s.heap h'->IntSet P w h' a ms->R (some true) { s with heap:=h' }) :
    wpAny (model P w) A (do
      storeSet a e1 t1
      if(!wd && t1.tooFull)=true then do
        g (relayAll t1 e1 (SetTable.grown e1.size)).2.2
        storeSet a (relayAll t1 e1 (SetTable.grown e1.size)).1 (relayAll t1 e1 (SetTable.grown e1.size)).2.1
        pure (some true)
      else pure (some true)) R E s:=by
  refine wpAny_bind (wpAny_storeSet_of ho hd ?_ (fits_of_scanBound hb))
  obtain⟨g1,S1⟩:=zaa4 ho hex hd hel hp hb hf L
  have sb1:=Heap.SameBut.update s.heap a (Obj.putSet e1 t1)
  split
  · have p2:=relayAll_perm t1 e1 (SetTable.grown e1.size)
    have f2:=relayAll_fits t1 e1 (SetTable.grown e1.size)
    have L2:=Led.relayAll L.led L e1 (SetTable.grown e1.size)
    revert p2 f2 L2
    generalize relayAll t1 e1 (SetTable.grown e1.size)=r
    obtain⟨e2,t2,gv⟩:=r
    intro p2 f2 L2
    dsimp only at p2 f2 L2 ⊢
    have z2:e2.size=e1.size:=by rw[<-Array.length_toList,p2.length_eq,Array.length_toList]
    have b2:e2.size<scanBound:=z2 ▸ hb
    refine wpAny_bind (hg _ _ _ ?_)
    refine wpAny_bind (wpAny_storeSet_of g1 rfl ?_ (fits_of_scanBound b2))
    obtain⟨_,S2⟩:=zaa4 (P:=P) (w:=w) g1 hex rfl (hel.perm p2) ((p2.map _).trans hp) b2 f2 L2
    exact wpAny_pure (h _ (sb1.trans (Heap.SameBut.update ..)) S2)
  ·exact wpAny_pure (h _ sb1 S1)
theorem zvf{ms:List Int}{k:Int}(h:k∈ms):step_dedup ms k=ms:=by
 unfold step_dedup
 have e:(ms.any λx=>x == k)=true:=List.any_eq_true.mpr ⟨k,h,beq_self_eq_true k⟩
 rw[if_pos e]
theorem zvg{ms:List Int}{k:Int}(h:¬ k∈ms):step_dedup ms k=ms++[k]:=by
 unfold step_dedup
 rw[if_neg λz=> ?_]
 obtain⟨x,hx,q⟩:=List.any_eq_true.mp z
 rw[beq_iff_eq]at q
 exact h (q ▸ hx)
theorem zahr {a:Addr} {ms:List Int} {k:Int} {tk:Tok} {Q:Bool->Shared->Prop} (hS:IntSet P w s.heap a ms) (hr:ms.length+1<scanBound)
    (h:∀ (b:Bool) h',Heap.SameBut a s.heap h'->IntSet P w h' a (step_dedup ms k)->Q b { s with heap:=h' }):wpAny (model P w) A (setAddHashed a (.int k tk) ((intKind P w).hash k)) Q E s:=by
  have hk:(intKind P w).is k (.int k tk)=true:=intKind_is ..
  have hsc:(Value.int k tk).scannable=true:=rfl
  generalize Value.int k tk=x at hk hsc
  obtain⟨o,es,ep,t,ho,hex,hd,hel,hp,hb,hf,L⟩:=hS
  have hlen:es.size=ms.length:=by rw[<-hp.length_eq,List.length_map,Array.length_toList]
  have hivx:iv x=k:=by obtain⟨_,z⟩:=Value.isInt_shape hk;rw[z];rfl
  unfold setAddHashed setAddHashedIn
  refine wpAny_holding (wpAny_bind (wpAny_setState_of ho hd hf ?_))
  dsimp only
  rw[byScan_of hsc hb hel,if_pos rfl]
  unfold setAddByScan
  refine wpAny_bind (wpAny_bind (wpAny_rule (wpAny_bind (wpAny_setScan_of hk ho hd hf hel ?_))))
  cases hx:es.toList.findIdx? (λe=>(intKind P w).is k e.2)with
  | some j =>
    dsimp only
    obtain⟨hj,pj,_⟩:=List.findIdx?_eq_some_iff_getElem.mp hx
    have hm:k∈ms:=(zve hel hp k).mpr ⟨_,List.getElem_mem hj,pj⟩
    refine wpAny_pure (wpAny_pure ?_)
    have:=h false s.heap (Heap.SameBut.refl a s.heap) ⟨o,es,ep,t,ho,hex,hd,hel,by rw[zvf hm];exact hp,hb,hf,L⟩
    exact this
  | none =>
    dsimp only
    have hm:¬ k∈ms:=λz=>by
      obtain⟨e,he,q⟩:=(zve hel hp k).mp z
      have:=List.findIdx?_eq_none_iff.mp hx e he
      rw[q]at this;cases this
    have p1:=layNew_perm t es ((intKind P w).hash k) x
    have f1:=layNew_fits t es ((intKind P w).hash k) x
    have L1:=L.layNew es ((intKind P w).hash k) x
    revert p1 f1 L1
    generalize layNew t es ((intKind P w).hash k) x=r
    obtain⟨e1,t1,wd,gv⟩:=r
    intro p1 f1 L1
    dsimp only at p1 f1 L1 ⊢
    rw[Array.toList_push]at p1
    have hel1:ElemsOf (intKind P w) e1.toList:=(hel.push hk hsc).perm p1
    have hp1:List.Perm (e1.toList.map λe=>iv e.2) (step_dedup ms k):=by
      rw[zvg hm]
      refine(p1.map _).trans ?_
      rw[List.map_append,List.map_cons,List.map_nil,hivx]
      exact List.Perm.append_right _ hp
    have hb1:e1.size<scanBound:=by
      rw[<-Array.length_toList,p1.length_eq,List.length_append,Array.length_toList,hlen]
      exact hr
    have gw:∀ (b:Bool) (s1:Shared) (R:Unit->Shared->Prop),R () s1 →
        wpAny (model P w) A (match b with
          | true=>rule "set.scan.the-table-gave-way"
          | false=>pure ()) R E s1:=λb s1 R q=>by
      cases b
      ·exact wpAny_pure q
      ·exact wpAny_rule q
    refine wpAny_bind (gw _ _ _ ?_)
    split
    · refine wpAny_bind ?_
      rw[hashByValue_scannable 8 hsc]
      refine wpAny_pure (zyi ?_ ho hex hd hel1 hp1 hb1 ?_ ?_ λh' sb S'=> ?_)
      · intro b s1 R q
        cases b
        ·exact wpAny_pure q
        ·exact wpAny_rule q
      · split
        ·exact f1
        ·exact SetTable.fits_plain_off f1
      · split
        ·exact L1
        ·exact L1.plainOff
      ·dsimp only;exact wpAny_pure (h _ h' sb S')
    · refine wpAny_bind (wpAny_pure ?_)
      rw[if_pos rfl]
      refine zyi ?_ ho hex hd hel1 hp1 hb1 f1 L1 λh' sb S'=> ?_
      · intro b s1 R q
        cases b
        ·exact wpAny_pure q
        ·exact wpAny_rule q
      ·dsimp only;exact wpAny_pure (h _ h' sb S')
theorem IntSet.at{h h':Heap}{a:Addr}{ms:List Int}(x:IntSet P w h a ms)(k:∀ o,h.get? a=some o->h'.get? a=some o):IntSet P w h' a ms:=by
 obtain⟨o,es,ep,t,ho,r⟩:=x
 exact⟨o,es,ep,t,k _ ho,r⟩
end
section
variable{P:Program}{w:World}{A:Around}{R:Result->Shared->Prop}{I:Addr}{fp wr:List Addr}{G:Array GenState->Array GenState->Prop}{n:Nat}{T:Nat->Value->Prop}{St:Nat->Shared->Prop}
theorem zaa5(W:WalksS P w A.in1 I fp wr G n T St)(a:Addr)(ha:a∉fp)(val:Nat->Int)(hv:∀ i v,T i v->∃ t,v=.int (val i) t)(hb:n+1<scanBound):∀ (k i:Nat) (s:Shared),n - i=k->i<=n->St i s →
    IntSet P w s.heap a (firstMet val i)->(∀ s',Moved (a::wr) G s s'->IntSet P w s'.heap a (firstMet val n)->R (.ok (.ret .none)) s') →
    codeAny (model P w) A (.builtin "set.update.loop" ⟨[.ref a,.ref I],[]⟩) R s:=by
  have haw:a∉wr:=λz=>ha (W.sub _ z)
  have up:∀ b∈wr,b∈a::wr:=λb q=>List.mem_cons_of_mem _ q
  intro k
  induction k with
  | zero =>
    intro i s e1 e2 st S q
    obtain rfl:i=n:=by omega
    refine codeAny_builtin PyProof.Rows.F.entry_set_update_loop ?_
    rw[Around.under_plainId PyProof.Rows.F.plain_set_update_loop _]
    show wpAny _ A.in1 (pyNext (.ref I) >>= _) _ _ s
    refine wpAny_bind (W.done s _ _ st λs' m=> ?_)
    show wpAny _ A.in1 (ret Value.none) _ _ s'
    exact wpAny_pure (q s' (m.mono up) (S.at λo e=>m.heap a o haw e))
  | succ k ih =>
    intro i s e1 e2 st S q
    have hi:i<n:=by omega
    refine codeAny_builtin PyProof.Rows.F.entry_set_update_loop ?_
    rw[Around.under_plainId PyProof.Rows.F.plain_set_update_loop _]
    show wpAny _ A.in1 (pyNext (.ref I) >>= _) _ _ s
    refine wpAny_bind (W.item i s _ _ hi st λv s1 tv st1 m=> ?_)
    obtain⟨t,rfl⟩:=hv i v tv
    have S1:=S.at λo e=>m.heap a o haw e
    show wpAny _ A.in1 (holding [Value.int (val i) t] (setAdd a (.int (val i) t)) >>= _) _ _ s1
    refine wpAny_bind (wpAny_holding ?_)
    unfold setAdd
    refine wpAny_holding (wpAny_bind ((intKind P w).pyHash (k:=val i) (intKind_is ..) ?_))
    refine zahr (s:={ s1 with toks:=s1.toks+1 }) S1 (by have:=firstMet_length_le val i;omega) λb h' sb S2=> ?_
    rw[<-firstMet_succ]at S2
    refine wpAny_pure ⟨plainId_quiet PyProof.Rows.F.plain_set_update_loop _,ih (i+1) _ (by omega) hi (W.frame _ s1 _ _ st1 (Nat.le_succ _) λb hb o e=> ?_) S2 λs2 m2 S3=> ?_⟩
    ·rw[sb.2 b λz:b=a=>ha (z ▸ hb)];exact e
    · refine q s2 (Moved.trans W.gtrans ((m.mono up).then_heap (Nat.le_succ _) λb o hb e=> ?_) m2) S3
      rw[sb.2 b λz:b=a=>hb (z ▸ List.mem_cons_self)];exact e
end
section
variable{P:Program}{w:World}{A:Around}{E:Value->Shared->Prop}{s:Shared}
theorem zafk{x:Value}{Q:Value->Shared->Prop}(h:Q (.ref s.heap.objs.size) { s with heap:=s.heap.push { cls:=.type "set",dict:=none,data:=.set #[] 0 (.fresh 0 0 (zw5 w)) } }) :
  codeAny (model P w) A (.call (.builtin "set.__new__") ⟨[.type "set",x],[]⟩) (wants Q E) s:=by
 refine codeAny_of_tree ?_
 show wpAny _ A.in1 (checkBuiltinCall "set.__new__" ⟨[.type "set",x],[]⟩ >>= λ_=>again (.builtin "set.__new__" ⟨[.type "set",x],[]⟩)) _ _ s
 refine wpAny_bind (wpAny_of_eq (PySem.F.newCall_set_1 x) (wpAny_pure ⟨plainId_quiet PySem.F.plain_set_new _,codeAny_builtin PySem.F.entry_set_new ?_⟩))
 rw[Around.under_plainId PySem.F.plain_set_new _]
 unfold Builtin.«set.__new__» Builtin.Frozenset.newClass
 have e:=sub_set_self
 obtain⟨hp,g,d,tk,os⟩:=s
 dsimp only
 wp_walk
 refine wpAny_askSetting (wpAny_pure ?_)
 dsimp only
 simp only[newObj]
 exact wpAny_bind (wpAny_alloc (wpAny_pure (wpAny_pure h)))
end
end L2
set_option linter.all false
set_option maxRecDepth 100000
namespace L2
open PySem PyProof.Rows
abbrev zqq(f:Value)(i:Nat)(a:Addr)(n ep:Nat):Obj:={ cls:=.type "set_iterator",dict:=none,data:=.fields #[f,rawInt i,.ref a,rawInt n,rawInt ep],slots:= #[] }
theorem slot_sit_next:Slot "set_iterator" "__next__" "set_iterator.__next__" :=
 .of (owner:="set_iterator") (n:="__next__") (by rw[typeLookup_type,builtinLookup_eq_fast];kernel_rfl) (by decide +kernel) (by decide +kernel) (by decide +kernel)
  (by first | exact .inl (by decide +kernel) | exact .inr (by decide +kernel))
  (by rw[isSubtype_type];kernel_rfl)
theorem zgl:entryFor table "set_iterator.__next__"=some Builtin.«set_iterator.__next__» :=entryFor_of_fast (by kernel_rfl)
theorem zg0(a:Value):argsOk "set_iterator.__next__" ⟨[a],[]⟩:=by
 unfold argsOk
 kernel_rfl
theorem zl1:Slot "set_iterator" "__iter__" "set_iterator.__iter__" :=
 .of (owner:="set_iterator") (n:="__iter__") (by rw[typeLookup_type,builtinLookup_eq_fast];kernel_rfl) (by decide +kernel) (by decide +kernel) (by decide +kernel)
  (by first | exact .inl (by decide +kernel) | exact .inr (by decide +kernel))
  (by rw[isSubtype_type];kernel_rfl)
section
variable{P:Program}{w:World}{A:Around}{E:Value->Shared->Prop}{s:Shared}
theorem zaa6{it a:Addr}{sl i n ep nx:Nat}{x:Value}{o:Obj}{es:Array (Int × Value)}{ep':Nat}{t:SetTable}{Q:Option Value->Shared->Prop}(hit:s.heap.get? it=some (zqq (rawInt sl) i a n ep))
  (ho:s.heap.get? a=some o) (hd:o.data=.set es ep' t) (hf:t.fits es.size=true) (hn:es.size=n)
  (hs:∀ (A':Around) (E':Value->Shared->Prop) (Q':Option (Value × Nat)->Shared->Prop),Q' (some (x,nx)) s->wpAny (model P w) A' (setNext a sl i ep) Q' E' s)
  (q:∀ h',h'.get? it=some (zqq (rawInt nx) (i+1) a n ep)->Heap.SameBut it s.heap h'->Q (some x) { s with heap:=h' }):wpAny (model P w) A (pyNext (.ref it)) Q E s:=by
 have T:s.TypeIs (.ref it) "set_iterator":=⟨_,hit,rfl⟩
 unfold pyNext
 refine wpAny_bind (wpAny_attempt (wpAny_callSpecial?_slot (name:=Str.ofString "__next__") T slot_sit_next (wpAny_call_entry slot_sit_next T zgl ?_ (zg0 _))))
 unfold Builtin.«set_iterator.__next__»
 refine wpAny_bind (wpAny_pure ?_)
 refine wpAny_bind (wpAny_fieldsOf hit rfl ?_)
 show wpAny _ _ (setEntries a >>= _) _ _ s
 refine wpAny_bind (wpAny_setEntries_of ho hd hf ?_)
 rw[if_neg (by rw[hn];simp)]
 show wpAny _ _ (setNext a (sl:Int).toNat (i:Int).toNat (ep:Int).toNat >>= _) _ _ s
 rw[Int.toNat_natCast,Int.toNat_natCast,Int.toNat_natCast]
 refine wpAny_bind (hs _ _ _ ?_)
 dsimp only
 refine wpAny_bind (wpAny_setField_rec hit (by simp) λh1 g1 b1=> ?_)
 refine wpAny_bind (wpAny_setField_rec g1 (by simp) λh2 g2 b2=> ?_)
 exact wpAny_pure ⟨_,rfl,wpAny_pure (q h2 g2 (b1.trans b2))⟩
theorem zaa7{it:Addr}{h1:Heap}{Q:Except Value (Option Value)->Shared->Prop}(hh:A.handled=none)(hx:Heap.ExtBut it s.heap h1)
  (q:∀ h' e,Heap.ExtBut it s.heap h'->({ s with heap:=h' }:Shared).TypeIs e "StopIteration"->Q (.error e) { s with heap:=h' }) :
  wpAny (model P w) A (newExc (.type "StopIteration") [] >>= raiseNew (α :=Fin)) (λ_ _=>False) (λe=>Q (.error e)) { s with heap:=h1 }:=by
 refine wpAny_bind ?_
 simp only[newExc,newTuple]
 refine wpAny_bind (wpAny_newObj_type ?_ (by size_fits))
 refine wpAny_bind (m:=firstArgMember _ _) (wpAny_of_eq (a:=Value.none) (by first | rfl | (simp only[firstArgMember];rfl)) ?_)
 refine wpAny_newObj_type ?_ (by size_fits)
 simp only[raiseNew]
 refine wpAny_bind (wpAny_handled ?_)
 rw[hh]
 refine wpAny_bind (wpAny_pure (wpAny_throw ?_))
 exact q _ _ ((hx.push _).push _) ⟨_,Heap.get?_push_size _ rfl,rfl⟩
theorem zaa8{it a:Addr}{sl i n ep:Nat}{o:Obj}{es:Array (Int × Value)}{ep':Nat}{t:SetTable}{Q:Option Value->Shared->Prop}(hh:A.handled=none)(hit:s.heap.get? it=some (zqq (rawInt sl) i a n ep))
  (ho:s.heap.get? a=some o) (hd:o.data=.set es ep' t) (hf:t.fits es.size=true) (hn:es.size=n)
  (hs:∀ (A':Around) (E':Value->Shared->Prop) (Q':Option (Value × Nat)->Shared->Prop),Q' none s->wpAny (model P w) A' (setNext a sl i ep) Q' E' s)
  (q:∀ h',Heap.ExtBut it s.heap h'->Q none { s with heap:=h' }):wpAny (model P w) A (pyNext (.ref it)) Q E s:=by
 have T:s.TypeIs (.ref it) "set_iterator":=⟨_,hit,rfl⟩
 unfold pyNext
 refine wpAny_bind (wpAny_attempt (wpAny_callSpecial?_slot (name:=Str.ofString "__next__") T slot_sit_next (wpAny_call_entry slot_sit_next T zgl ?_ (zg0 _))))
 unfold Builtin.«set_iterator.__next__»
 refine wpAny_bind (wpAny_pure ?_)
 refine wpAny_bind (wpAny_fieldsOf hit rfl ?_)
 show wpAny _ _ (setEntries a >>= _) _ _ s
 refine wpAny_bind (wpAny_setEntries_of ho hd hf ?_)
 rw[if_neg (by rw[hn];simp)]
 show wpAny _ _ (setNext a (sl:Int).toNat (i:Int).toNat (ep:Int).toNat >>= _) _ _ s
 rw[Int.toNat_natCast,Int.toNat_natCast,Int.toNat_natCast]
 refine wpAny_bind (hs _ _ _ ?_)
 dsimp only
 refine wpAny_bind (wpAny_setField_rec hit (by simp) λh1 g1 b1=> ?_)
 refine wpAny_mono (zaa7 (s:=s) (it:=it) (A:=A.in1) (Q:=λr s'=>match r with
  | .error e=>wpAny (model P w) A (isInstance e (.type "StopIteration") >>= λb=>if b=true then pure none else throw e) Q E s'
  | _=>False) (by simpa using hh) b1.extBut λh' e hx te=> ?_) (λ_ _ z=>z.elim) (λe s' z=>z)
 refine wpAny_bind (wpAny_isInstance (T:="StopIteration") (b:=true) te isSubtype_stop ?_)
 exact wpAny_pure (q _ hx)
theorem zzc{it a tp:Addr}{i n ep pl:Nat}{ot:Obj}{ps:Array Value}{k:Nat}{x:Int × Value}{o:Obj}{es:Array (Int × Value)}{t:SetTable}{Q:Option Value->Shared->Prop}(hit:s.heap.get? it=some (zqq (.ref tp) i a n ep))
  (ho:s.heap.get? a=some o) (hd:o.data=.set es ep t) (hf:t.fits es.size=true) (hn:es.size=n) (ht:s.heap.get? tp=some ot) (hdt:ot.data=.seq ps k) (hp:ps[i]? =some (rawInt pl)) (hx:es[pl]? =some x)
  (q:∀ h',h'.get? it=some (zqq (.ref tp) (i+1) a n ep)->Heap.SameBut it s.heap h'->Q (some x.2) { s with heap:=h' }):wpAny (model P w) A (pyNext (.ref it)) Q E s:=by
 have T:s.TypeIs (.ref it) "set_iterator":=⟨_,hit,rfl⟩
 unfold pyNext
 refine wpAny_bind (wpAny_attempt (wpAny_callSpecial?_slot (name:=Str.ofString "__next__") T slot_sit_next (wpAny_call_entry slot_sit_next T zgl ?_ (zg0 _))))
 unfold Builtin.«set_iterator.__next__»
 refine wpAny_bind (wpAny_pure ?_)
 refine wpAny_bind (wpAny_fieldsOf hit rfl ?_)
 show wpAny _ _ (setEntries a >>= _) _ _ s
 refine wpAny_bind (wpAny_setEntries_of ho hd hf ?_)
 rw[if_neg (by rw[hn];simp)]
 show wpAny _ _ (seqItems? (.ref tp) >>= _) _ _ s
 refine wpAny_bind (wpAny_seqItems ht hdt ?_)
 dsimp only
 rw[Int.toNat_natCast,hp]
 show wpAny _ _ (setNextDrawn a (pl:Int).toNat (ep:Int).toNat >>= _) _ _ s
 rw[Int.toNat_natCast,Int.toNat_natCast]
 unfold setNextDrawn
 refine wpAny_bind (wpAny_bind (wpAny_setState_of ho hd hf ?_))
 dsimp only
 rw[if_neg (by simp)]
 obtain⟨x1,x2⟩:=x
 rw[hx]
 refine wpAny_pure ?_
 refine wpAny_bind (wpAny_setField_rec hit (by simp) λh2 g2 b2=> ?_)
 exact wpAny_pure ⟨_,rfl,wpAny_pure (q h2 g2 b2)⟩
theorem zzd{it a tp:Addr}{i n ep:Nat}{ot:Obj}{ps:Array Value}{k:Nat}{o:Obj}{es:Array (Int × Value)}{t:SetTable}{Q:Option Value->Shared->Prop}(hh:A.handled=none)(hit:s.heap.get? it=some (zqq (.ref tp) i a n ep))
  (ho:s.heap.get? a=some o) (hd:o.data=.set es ep t) (hf:t.fits es.size=true) (hn:es.size=n) (ht:s.heap.get? tp=some ot) (hdt:ot.data=.seq ps k) (hp:ps[i]? =none)
  (q:∀ h',Heap.ExtBut it s.heap h'->Q none { s with heap:=h' }):wpAny (model P w) A (pyNext (.ref it)) Q E s:=by
 have T:s.TypeIs (.ref it) "set_iterator":=⟨_,hit,rfl⟩
 unfold pyNext
 refine wpAny_bind (wpAny_attempt (wpAny_callSpecial?_slot (name:=Str.ofString "__next__") T slot_sit_next (wpAny_call_entry slot_sit_next T zgl ?_ (zg0 _))))
 unfold Builtin.«set_iterator.__next__»
 refine wpAny_bind (wpAny_pure ?_)
 refine wpAny_bind (wpAny_fieldsOf hit rfl ?_)
 show wpAny _ _ (setEntries a >>= _) _ _ s
 refine wpAny_bind (wpAny_setEntries_of ho hd hf ?_)
 rw[if_neg (by rw[hn];simp)]
 show wpAny _ _ (seqItems? (.ref tp) >>= _) _ _ s
 refine wpAny_bind (wpAny_seqItems ht hdt ?_)
 dsimp only
 rw[Int.toNat_natCast,hp]
 dsimp only
 refine wpAny_bind (wpAny_setField_rec hit (by simp) λh1 g1 b1=> ?_)
 refine wpAny_bind (wpAny_setField_rec g1 (by simp) λh2 g2 b2=> ?_)
 refine wpAny_mono (zaa7 (s:=s) (it:=it) (A:=A.in1) (Q:=λr s'=>match r with
  | .error e=>wpAny (model P w) A (isInstance e (.type "StopIteration") >>= λb=>if b=true then pure none else throw e) Q E s'
  | _=>False) (by simpa using hh) (b1.trans b2).extBut λh' e hx te=> ?_) (λ_ _ z=>z.elim) (λe s' z=>z)
 refine wpAny_bind (wpAny_isInstance (T:="StopIteration") (b:=true) te isSubtype_stop ?_)
 exact wpAny_pure (q _ hx)
theorem zvh{a:Addr}{o:Obj}{es:Array (Int × Value)}{ep:Nat}{t:SetTable}{i:Nat}{Q:Option (Value × Nat)->Shared->Prop}(ft:w.params.followText "set-order"=true)(ho:s.heap.get? a=some o)(hd:o.data=.set es ep t)(hf:t.fits es.size=true)
  (q:Q (((pickOrder (w.params.setOrder a ep) es)[i]?).map λe=>(e.2,0)) s):wpAny (model P w) A (setNext a 0 i ep) Q E s:=by
 unfold setNext
 refine wpAny_bind (wpAny_setState_of ho hd hf ?_)
 dsimp only
 refine wpAny_bind ?_
 unfold setsByText
 refine wpAny_bind (wpAny_askSetting (wpAny_pure ?_))
 show wpAny _ _ (if w.params.followText "set-order"=true then _ else _) _ _ s
 rw[if_pos ft,if_neg (by simp)]
 refine wpAny_bind ?_
 unfold setWalk
 refine wpAny_bind (wpAny_setState_of ho hd hf ?_)
 dsimp only
 refine wpAny_bind ?_
 unfold setsByText
 refine wpAny_bind (wpAny_askSetting (wpAny_pure ?_))
 show wpAny _ _ (if w.params.followText "set-order"=true then _ else _) _ _ s
 rw[if_pos ft]
 refine wpAny_bind (wpAny_askSetting (wpAny_pure ?_))
 exact wpAny_pure q
theorem zw6{a:Addr}{o:Obj}{es:Array (Int × Value)}{ep:Nat}{t:SetTable}{i:Nat}{Q:Option (Value × Nat)->Shared->Prop}(ft:w.params.followText "set-order"=false)(ho:s.heap.get? a=some o)(hd:o.data=.set es ep t)(hf:t.fits es.size=true)
  (L:Led (zw5 w) t) (pl:(!t.plain && decide (es.size > 1))=false) (hi:i<=es.size) (q:Q ((es[i]?).map λe=>(e.2,zs7 t.place (i+1))) s):wpAny (model P w) A (setNext a (zs7 t.place i) i ep) Q E s:=by
 have hz:t.place.size=es.size:=by
  unfold SetTable.fits at hf
  simp only[Bool.and_eq_true,beq_iff_eq]at hf
  exact hf.1
 unfold setNext
 refine wpAny_bind (wpAny_setState_of ho hd hf ?_)
 dsimp only
 refine wpAny_bind ?_
 unfold setsByText
 refine wpAny_bind (wpAny_askSetting (wpAny_pure ?_))
 show wpAny _ _ (if w.params.followText "set-order"=true then _ else _) _ _ s
 rw[if_neg (show ¬ w.params.followText "set-order"=true by rw[ft];exact Bool.false_ne_true)]
 have ld:t.led=true:=by rw[L.led];unfold zw5;rw[ft];rfl
 show wpAny _ _ (if(!t.plain && decide (es.size > 1))=true then _ else _) _ _ s
 rw[if_neg (by rw[pl];exact Bool.false_ne_true)]
 refine wpAny_bind (m:=if(!t.led && !es.isEmpty)=true then _ else _) ?_
 rw[if_neg (by rw[ld];simp)]
 refine wpAny_pure (wpAny_pure ?_)
 rw[zvd L.rise (by omega)]
 by_cases hlt:i<es.size
 ·have h2:i<t.place.size:=by omega
  rw[Array.getElem?_eq_getElem hlt,Array.getElem?_eq_getElem h2]
  rw[Array.getElem?_eq_getElem hlt]at q
  have:zs7 t.place (i+1)=t.place[i]+1:=by simp[zs7,h2]
  rw[Option.map_some,this]at q
  exact q
 ·rw[Array.getElem?_eq_none (by omega)]
  rw[Array.getElem?_eq_none (by omega),Option.map_none]at q
  exact q
end
end L2
set_option linter.all false
set_option maxRecDepth 100000
set_option maxHeartbeats 4000000
namespace L2
open PySem PyProof.Rows
theorem zrx:entryFor table "set.__iter__"=some Builtin.«frozenset.__iter__» :=entryFor_alias (id':="frozenset.__iter__") (by kernel_rfl) rfl (by decide +kernel) (by kernel_rfl)
theorem zry:entryFor table "set_iterator.__iter__"=some Builtin.«dict_keyiterator.__iter__» :=entryFor_alias (id':="dict_keyiterator.__iter__") (by kernel_rfl) rfl (by decide +kernel) (by kernel_rfl)
theorem zt0(a:Value):argsOk "set_iterator.__iter__" ⟨[a],[]⟩:=by
 unfold argsOk
 kernel_rfl
structure zw7(P:Program)(w:World)(A:Around)(h h1:Heap)(a I:Addr)(ms:List Int):Prop where
 ex:∃ (fp:List Addr) (ord:List Value) (ks:List Int) (St:Nat->Heap->Prop),(∀ b∈fp,b=a\/h.objs.size<=b)/\Walks P w A I fp [I] ord.length (λi v=>ord[i]? =some v) St/\St 0 h1/\IntsAre ord ks/\ks.Perm ms
 new:h.objs.size<=I
section
variable{P:Program}{w:World}{A:Around}{E:Value->Shared->Prop}{s:Shared}
theorem zif:∀ {es:List (Int × Value)},ElemsOf (intKind P w) es->IntsAre (es.map (·.2)) (es.map λe=>iv e.2)
  | [],_=>.nil
  | e::r,h=>by
    obtain⟨t,z⟩:=ztz h (List.mem_cons_self ..)
    have:=zif h.tail
    rw[List.map_cons,List.map_cons,z]
    exact .cons _ _ this
theorem zyj{it:Addr}{f:Value}{i:Nat}{a:Addr}{n ep:Nat}{Q:Value->Shared->Prop}(hit:s.heap.get? it=some (zqq f i a n ep))(q:Q (.ref it) s):wpAny (model P w) A (pyIter (.ref it)) Q E s:=by
 have T:s.TypeIs (.ref it) "set_iterator":=⟨_,hit,rfl⟩
 refine wpAny_pyIter_slot T zl1 (wpAny_call_entry zl1 T zry ?_ (zt0 _))
 show wpAny _ _ (ret (.ref it)) _ _ s
 exact wpAny_pure ⟨_,rfl,"set_iterator",_,T,slot_sit_next.lookup,q⟩
theorem zw8{a I:Addr}{es:Array (Int × Value)}{ep:Nat}{t:SetTable}{o:Obj}{f:Nat->Nat}{ord:List Value}(hh:A.handled=none)(hne:a≠I)(hd:o.data=.set es ep t)(hf:t.fits es.size=true)(hl:ord.length=es.size)
  (nx:∀ (s:Shared),s.heap.get? a=some o->∀ (i:Nat),i<=es.size->∀ (A':Around) (E':Value->Shared->Prop) (Q':Option (Value × Nat)->Shared->Prop),Q' ((ord[i]?).map λv=>(v,f (i+1))) s->wpAny (model P w) A' (setNext a (f i) i ep) Q' E' s) :
  Walks P w A I [I,a] [I] ord.length (λi v=>ord[i]? =some v) (λi h=>h.get? I=some (zqq (rawInt (f i)) i a es.size ep)/\h.get? a=some o) where
 sub:=λb hb=>by simp at hb;simp[hb]
 frame:=λ_ _ _ st k=>⟨k I (by simp) _ st.1,k a (by simp) _ st.2⟩
 item:=λi s Q E hi st q=>by
  have e:ord[i]? =some ord[i]:=List.getElem?_eq_getElem hi
  refine zaa6 st.1 st.2 hd hf rfl (λA' E' Q' q'=>nx s st.2 i (by omega) A' E' Q' (by rw[e];exact q')) λh' g b=> ?_
  exact q _ h' s.toks e ⟨g,b.extBut a _ hne st.2⟩ λc u hc z=>b.extBut c u (λy=>hc (by simp[y])) z
 done:=λs Q E st q=>by
  refine zaa8 hh st.1 st.2 hd hf rfl (λA' E' Q' q'=>nx s st.2 ord.length (by omega) A' E' Q' (by rw[List.getElem?_eq_none (Nat.le_refl _)];exact q')) λh' x=> ?_
  exact q h' s.toks λc u hc z=>x c u (λy=>hc (by simp[y])) z
 self:=λ_ _ _ _ st q=>zyj st.1 q
theorem zw9{a I tp:Addr}{es:Array (Int × Value)}{ep k:Nat}{t:SetTable}{o ot:Obj}{pl:List Nat}{ord:List Value}(hh:A.handled=none)(hne:a≠I)(hnt:tp≠I)(hd:o.data=.set es ep t)(hf:t.fits es.size=true)
  (hdt:ot.data=.seq (pl.map λ(i:Nat)=>rawInt i).toArray k) (hl:ord.length=pl.length) (hx:∀ (i p:Nat),pl[i]? =some p->∃ e:Int × Value,es[p]? =some e/\ord[i]? =some e.2) :
  Walks P w A I [I,a,tp] [I] ord.length (λi v=>ord[i]? =some v) (λi h=>h.get? I=some (zqq (.ref tp) i a es.size ep)/\h.get? a=some o/\h.get? tp=some ot) where
 sub:=λb hb=>by simp at hb;simp[hb]
 frame:=λ_ _ _ st k=>⟨k I (by simp) _ st.1,k a (by simp) _ st.2.1,k tp (by simp) _ st.2.2⟩
 item:=λi s Q E hi st q=>by
  have hi':i<pl.length:=by omega
  have e:=List.getElem?_eq_getElem hi'
  obtain⟨x,e1,e2⟩:=hx i _ e
  refine zzc st.1 st.2.1 hd hf rfl st.2.2 hdt (by rw[List.getElem?_toArray,List.getElem?_map,e];rfl) e1 λh' g b=> ?_
  exact q _ h' s.toks e2 ⟨g,b.extBut a _ hne st.2.1,b.extBut tp _ hnt st.2.2⟩ λc u hc z=>b.extBut c u (λy=>hc (by simp[y])) z
 done:=λs Q E st q=>by
  refine zzd hh st.1 st.2.1 hd hf rfl st.2.2 hdt (by rw[List.getElem?_toArray,List.getElem?_map,List.getElem?_eq_none (by omega)];rfl) λh' x=> ?_
  exact q h' s.toks λc u hc z=>x c u (λy=>hc (by simp[y])) z
 self:=λ_ _ _ _ st q=>zyj st.1 q
theorem zze{n:Nat}{Q:Nat->Shared->Prop}(hn:n≠0)(q:∀ i d,i<n->Q i { s with drawn:=d }):wpAny (model P w) A (choose .order n) Q E s:=fun Γ p hΓ =>by
 show Sem.wp _ _ (.choose .order n .pure) _ _ _ _
 rw[Sem.wp_choose]
 refine⟨hn,?_⟩
 show Sem.wp _ _ (.pure _) _ _ _ _
 rw[Sem.wp]
 exact q _ _ (Nat.mod_lt _ (Nat.pos_of_ne_zero hn))
theorem zs8{α :Type}:∀ (n:Nat) (xs:List α) (s:Shared) (Q:List α ->Shared->Prop),xs.length=n->(∀ ys d,List.Perm ys xs->Q ys { s with drawn:=d })->wpAny (model P w) A (drawOrder n xs) Q E s
  | 0,xs,s,Q,hn,q=>by
    have:xs=[]:=List.length_eq_zero_iff.mp hn
    subst this
    unfold drawOrder
    exact wpAny_pure (q [] s.drawn .nil)
  | n+1,[],s,Q,hn,q=>by cases hn
  | n+1,x::r,s,Q,hn,q=>by
    unfold drawOrder
    refine wpAny_bind (zze (by simp) λi d hi=> ?_)
    rw[List.getElem?_eq_getElem hi]
    dsimp only
    refine wpAny_bind (zs8 n _ _ _ (by rw[List.length_eraseIdx_of_lt hi,hn];rfl) λys d' p=> ?_)
    refine wpAny_pure (q _ d' ?_)
    refine(List.Perm.cons _ p).trans ?_
    rw[List.eraseIdx_eq_take_drop_succ]
    refine List.perm_middle.symm.trans ?_
    rw[<-List.drop_eq_getElem_cons hi,List.take_append_drop]
theorem zacx {a:Addr} {ms:List Int} {Q:Value->Shared->Prop} (hh:A.handled=none) (S:IntSet P w s.heap a ms)
    (q:∀ I h1 d1,(∀ b o,s.heap.get? b=some o->h1.get? b=some o)->zw7 P w A s.heap h1 a I ms->Q (.ref I) { s with heap:=h1,drawn:=d1 }):wpAny (model P w) A (pyIter (.ref a)) Q E s:=by
  obtain⟨o,es,ep,t,ho,hex,hd,hel,hp,hb,hf,L⟩:=S
  have T:s.TypeIs (.ref a) "set":=⟨o,ho,hex.1⟩
  have hlt:a<s.heap.objs.size:=Heap.lt_size ho
  refine wpAny_pyIter_slot T PySem.F.slot_set_iter (wpAny_call_entry PySem.F.slot_set_iter T zrx ?_ (PySem.F.args_set_iter_1 _))
  unfold Builtin.«frozenset.__iter__»
  show wpAny _ _ ((pure a:Sem Addr) >>= _) _ _ s
  refine wpAny_bind (wpAny_pure ?_)
  refine wpAny_bind ?_
  unfold Builtin.Frozenset.sizeOf
  refine wpAny_bind (wpAny_setEntries_of ho hd hf (wpAny_pure ?_))
  refine wpAny_bind ?_
  unfold setDrawn
  refine wpAny_bind (wpAny_setState_of ho hd hf ?_)
  dsimp only
  refine wpAny_bind ?_
  unfold setsByText
  refine wpAny_bind (wpAny_askSetting (wpAny_pure (wpAny_pure ?_)))
  show wpAny _ _ (if(!w.params.followText "set-order" && (!t.plain && decide (es.size > 1)))=true then _ else _) _ _ s
  have plain:∀ (f:Nat->Nat) (ord:List Value),f 0=0->ord.length=es.size->(∃ ks,IntsAre ord ks/\ks.Perm ms) →
      (∀ (s:Shared),s.heap.get? a=some o->∀ (i:Nat),i<=es.size->∀ (A':Around) (E':Value->Shared->Prop) (Q':Option (Value × Nat)->Shared->Prop),Q' ((ord[i]?).map λv=>(v,f (i+1))) s->wpAny (model P w) A' (setNext a (f i) i ep) Q' E' s) →
      zw7 P w A s.heap (s.heap.push (zqq (rawInt 0) 0 a es.size ep)) a s.heap.objs.size ms:=λf ord f0 hl ⟨ks,hi,pk⟩ nx =>
    ⟨⟨_,ord,ks,_,λb hb=>by
        simp only[List.mem_cons,List.not_mem_nil,or_false]at hb
        rcases hb with rfl | rfl
        ·exact .inr (Nat.le_refl _)
        ·exact .inl rfl,zw8 hh (Nat.ne_of_lt hlt) hd hf hl nx,⟨by rw[f0];exact Heap.get?_push_size _ rfl,Heap.get?_push_of_some _ ho⟩,hi,pk⟩,Nat.le_refl _⟩
  have fin:∀ (W:zw7 P w A s.heap (s.heap.push (zqq (rawInt 0) 0 a es.size ep)) a s.heap.objs.size ms),
      wpAny (model P w) A.in1 (do
        let first ← (pure (rawInt 0):Sem Value)
        ret (← newFields "set_iterator" [first,rawInt 0,.ref a,rawInt es.size,rawInt (← setEpoch a)])) (λfin s'=>∃ v,fin=.done (.ret v)/\∃ T' r,s'.TypeIs v T'/\typeLookup (.type T') "__next__"=pure (some r)/\Q v s') E s:=λW=>by
    refine wpAny_bind (wpAny_pure ?_)
    refine wpAny_bind (wpAny_setEpoch_of ho hd hf ?_)
    refine wpAny_bind (wpAny_newObj_type (wpAny_pure ⟨_,rfl,"set_iterator",_,⟨_,Heap.get?_push_size _ rfl,rfl⟩,slot_sit_next.lookup,?_⟩))
    exact q _ _ s.drawn (λb u e=>Heap.get?_push_of_some _ e) W
  cases ft:w.params.followText "set-order" with
  | true =>
    rw[if_neg (by simp)]
    have pk:=zaa2 (w.params.setOrder a ep) es
    have hl:(pickOrder (w.params.setOrder a ep) es).size=es.size:=by rw[<-Array.length_toList,pk.length_eq,Array.length_toList]
    refine fin (plain (λ_=>0) ((pickOrder (w.params.setOrder a ep) es).toList.map (·.2)) rfl (by rw[List.length_map,Array.length_toList,hl]) ⟨_,zif (hel.perm pk),(pk.map _).trans hp⟩ λs1 h1 i hi A' E' Q' q'=> ?_)
    refine zvh ft h1 hd hf ?_
    rw[List.getElem?_map,Array.getElem?_toList,Option.map_map]at q'
    exact q'
  | false =>
    cases pl:(!t.plain && decide (es.size > 1))with
    | false =>
      rw[if_neg (by simp)]
      refine fin (plain (zs7 t.place) (es.toList.map (·.2)) rfl (by rw[List.length_map,Array.length_toList]) ⟨_,zif hel,hp⟩ λs1 h1 i hi A' E' Q' q'=> ?_)
      refine zw6 ft h1 hd hf L pl hi ?_
      rw[List.getElem?_map,Array.getElem?_toList,Option.map_map]at q'
      exact q'
    | true =>
      rw[if_pos (by simp)]
      refine wpAny_bind (zs8 es.size (List.range es.size) s _ (List.length_range) λys d p=> ?_)
      have hy:ys.length=es.size:=by rw[p.length_eq,List.length_range]
      have hys:∀ x∈ys,x<es.size:=λx hx=>List.mem_range.mp (p.mem_iff.mp hx)
      refine wpAny_bind (wpAny_newTuple ?_ (by rw[List.length_map,hy];exact fits_of_scanBound hb))
      refine wpAny_bind (wpAny_setEpoch_of (o:=o) (Heap.get?_push_of_some _ ho) hd hf ?_)
      refine wpAny_bind (wpAny_newObj_type (wpAny_pure ⟨_,rfl,"set_iterator",_,⟨_,Heap.get?_push_size _ rfl,rfl⟩,slot_sit_next.lookup,?_⟩))
      refine q _ _ d (λb u e=>Heap.get?_push_of_some _ (Heap.get?_push_of_some _ e)) ⟨⟨_,ys.map λp=>(es[p]?.map (·.2)).getD .none,ys.map λp=>(es[p]?.map λe=>iv e.2).getD 0,_,λb hb=> ?_,
        zw9 hh ?_ ?_ hd hf rfl (by rw[List.length_map]) λi p e=> ?_,⟨Heap.get?_push_size _ rfl,Heap.get?_push_of_some _ (Heap.get?_push_of_some _ ho),Heap.get?_push_of_some _ (Heap.get?_push_size _ rfl)⟩,?_,?_⟩,?_⟩
      · simp only[List.mem_cons,List.not_mem_nil,or_false]at hb
        rcases hb with rfl | rfl | rfl
        ·right;rw[size_push'];exact Nat.le_succ _
        ·exact .inl rfl
        ·exact .inr (Nat.le_refl _)
      ·rw[size_push'];exact Nat.ne_of_lt (Nat.lt_succ_of_lt hlt)
      ·rw[size_push'];exact Nat.ne_of_lt (Nat.lt_succ_self _)
      · have hp':p<es.size:=hys p (List.mem_of_getElem? e)
        exact⟨es[p],Array.getElem?_eq_getElem hp',by rw[List.getElem?_map,e];simp[hp']⟩
      · have all:∀ (l:List Nat),(∀ x∈l,x<es.size)->IntsAre (l.map λp=>(es[p]?.map (·.2)).getD .none) (l.map λp=>(es[p]?.map λe=>iv e.2).getD 0):=by
          intro l
          induction l with
          | nil=>exact λ_=>.nil
          | cons x r ih =>
            intro hl
            have hx:=hl x (List.mem_cons_self ..)
            obtain⟨tk,z⟩:=ztz hel (e:=es[x]) (by simp)
            have e1:(es[x]?.map (·.2)).getD Value.none=Value.int (iv es[x].2) tk:=by rw[Array.getElem?_eq_getElem hx];exact z
            have e2:(es[x]?.map λe=>iv e.2).getD 0=iv es[x].2:=by rw[Array.getElem?_eq_getElem hx];rfl
            rw[List.map_cons,List.map_cons,e1,e2]
            exact .cons _ _ (ih λy hy=>hl y (List.mem_cons_of_mem _ hy))
        exact all ys hys
      · refine(p.map _).trans (List.Perm.trans (List.Perm.of_eq ?_) hp)
        refine List.ext_getElem (by simp) λi h1 h2=> ?_
        have hi:i<es.size:=by simpa using h1
        simp[hi]
      ·rw[size_push'];exact Nat.le_succ _
theorem zacy{a:Addr}{Q:Bool->Shared->Prop}(T:s.TypeIs (.ref a) "set")(q:Q false s):wpAny (model P w) A (Builtin.List.listLengthHint (.ref a)) Q E s:=by
 unfold Builtin.List.listLengthHint
 refine wpAny_bind (wpAny_specialOf T PySem.F.slot_set_len.lookup ?_)
 generalize hid:("set.__len__":String)=id0
 wp_delta
 rw[show splitId id0=some ("set","__len__")from by subst hid;decide +kernel]
 subst hid
 refine wpAny_bind (wpAny_isInstance (T:="set") (b:=true) T (by rw[isSubtype_type];kernel_rfl) ?_)
 refine wpAny_ite_split (λz=>absurd z (by decide)) (λ_=> ?_)
 refine wpAny_ite_split (λ_=> ?_) (λz=>absurd (by decide +kernel) z)
 exact wpAny_bind (wpAny_typeOf T (wpAny_pure q))
theorem zxa{a:Addr}{ms:List Int}{R:List Value->Shared->Prop}(hh:A.handled=none)(S:IntSet P w s.heap a ms)(hn:ms.length<=sizeLine)
  (q:∀ h' tk d vs ks,(∀ b o,s.heap.get? b=some o->h'.get? b=some o)->s.heap.objs.size<=h'.objs.size->IntsAre vs ks->ks.Perm ms->R vs { s with heap:=h',toks:=tk,drawn:=d }):wpAny (model P w) A (collect (.ref a)) R E s:=by
 have hlt:a<s.heap.objs.size:=let ⟨_,_,_,_,ho,_⟩:=S;Heap.lt_size ho
 unfold collect
 refine wpAny_bind (wpAny_runValue (codeAny_builtin entry_proto_collect' ?_))
 rw[Around.under_plainId PySem.F.plain_proto_collect _]
 show wpAny _ A.in1 (newList [] >>= λl=>again (.builtin "list.__iadd__" ⟨[l,.ref a],[]⟩)) _ _ s
 refine wpAny_bind (wpAny_newObj_type ?_)
 refine wpAny_pure ⟨plainId_quiet PySem.F.plain_list_iadd _,codeAny_builtin entry_list_iadd' ?_⟩
 rw[Around.under_plainId PySem.F.plain_list_iadd _]
 show wpAny _ A.in1 (Builtin.List.listExtendWith (.ref s.heap.objs.size) (.ref a) (.ref s.heap.objs.size)) _ _ _
 generalize eN:s.heap.objs.size=N at hlt ⊢
 have gN:(s.heap.push { cls:=.type "list",data:=.seq ([]:List Value).toArray }).get? N=some { cls:=.type "list",data:=.seq #[] }:=eN ▸ Heap.get?_push_size _ rfl
 have keep1:∀ b o,s.heap.get? b=some o->(s.heap.push { cls:=.type "list",data:=.seq ([]:List Value).toArray }).get? b=some o:=λb o e=>Heap.get?_push_of_some _ e
 have S1:=S.at λo e=>keep1 a o e
 have big:(s.heap.push { cls:=.type "list",data:=.seq ([]:List Value).toArray }).objs.size=N+1:=by rw[size_push',eN]
 revert gN keep1 S1 big
 generalize s.heap.push { cls:=.type "list",data:=.seq ([]:List Value).toArray }=h0
 intro gN keep1 S1 big
 have T1:∀ h':Heap,(∀ b o,h0.get? b=some o->h'.get? b=some o)->∀ tk d,({ s with heap:=h',toks:=tk,drawn:=d }:Shared).TypeIs (.ref a) "set":=λh' k tk d=>by
  obtain⟨o,_,_,_,ho,hex,_⟩:=S1
  exact⟨o,k _ _ ho,hex.1⟩
 unfold Builtin.List.listExtendWith
 refine wpAny_bind (wpAny_typeOf (T:="set") (T1 h0 (λ_ _ e=>e) s.toks s.drawn) ?_)
 have ne:Builtin.List.listSameRef (.ref N) (.ref a)=false:=by
  simp only[Builtin.List.listSameRef,beq_eq_false_iff_ne]
  exact Nat.ne_of_gt hlt
 have n1:(Value.type "set" == Value.type "list")=false:=by decide
 have n2:(Value.type "set" == Value.type "tuple")=false:=by decide
 simp only[ne,n1,n2,Bool.or_false,Bool.false_eq_true,if_false]
 refine wpAny_bind (zacx (A:=A.in1) (s:={ s with heap:=h0 }) (by simpa using hh) S1 λI h1 d1 k1 W=> ?_)
 obtain⟨⟨fp,ord,ks,St,hfp,W,st,hi,pk⟩,hI⟩:=W
 have hI:N+1<=I:=big ▸ hI
 have hlen:ord.length=ms.length:=by rw[IntsAre.length hi,pk.length_eq]
 refine wpAny_bind (wpAny_holding (zacy (T1 h1 k1 s.toks d1) ?_))
 rw[if_pos (by decide)]
 refine wpAny_bind (wpAny_rule ?_)
 refine wpAny_bind ?_
 show wpAny _ _ (updateSeq N (·.push .none) >>= λ_=>updateSeq N (·.pop)) _ _ _
 have g1:=k1 _ _ gN
 refine wpAny_bind (wpAny_updateSeq (s:={ s with heap:=h1,drawn:=d1 }) g1 rfl ?_)
 have g2:=Heap.get?_update_self (Obj.mapSeq (·.push Value.none)) g1 rfl
 refine wpAny_updateSeq (hz:=by seq_fits) g2 rfl ?_
 have g3:=Heap.get?_update_self (Obj.mapSeq (·.pop)) g2 rfl
 have oth:∀ b o,b≠N->h1.get? b=some o->((h1.update N (Obj.mapSeq (·.push Value.none))).update N (Obj.mapSeq (·.pop))).get? b=some o:=λb o hb e =>
  (Heap.get?_update_other _ _ (Ne.symm hb)).trans ((Heap.get?_update_other _ _ (Ne.symm hb)).trans e)
 have Nfp:N∉fp:=λz=>by
  rcases hfp N z with y | y
  ·exact Nat.ne_of_gt hlt y
  ·have y':h0.objs.size<=N:=y
   rw[big]at y'
   exact absurd y' (Nat.not_succ_le_self _)
 refine wpAny_pure ⟨plainId_quiet PySem.F.plain_extend_loop _,?_⟩
 refine codeAny_extend_loopS W.toS (by rw[hlen];exact hn) N Nfp (.ref N) ord.length 0 _ #[] _ rfl (Nat.zero_le _) (W.frame 0 _ _ st λb hb o e=>oth b o (λz=>Nfp (z ▸ hb)) e) g3 (ItemsOf.nil _) λs' acc c m g4 hacc=> ?_
 show wpAny _ A (load N >>= _) _ _ _
 refine wpAny_bind (wpAny_load g4 ?_)
 refine wpAny_pure ?_
 have eacc:acc.toList=ord:=by
  refine List.ext_getElem? λi=> ?_
  by_cases hlt':i<ord.length
  ·have h3:i<acc.size:=by rw[hacc.1];exact hlt'
   have:=hacc.2 i acc[i] (Array.getElem?_eq_getElem h3)
   rw[Array.getElem?_toList,Array.getElem?_eq_getElem h3,this]
  ·have e1:acc.toList[i]? =none:=List.getElem?_eq_none (by rw[Array.length_toList,hacc.1];omega)
   have e2:ord[i]? =none:=List.getElem?_eq_none (by omega)
   rw[e1,e2]
 show R acc.toList s'
 rw[eacc]
 obtain⟨h3,gn3,dr3,tk3,os3⟩:=s'
 have a1:gn3=s.gens:=m.gens
 have a2:dr3=d1:=m.drawn
 have a3:os3=s.os:=m.os
 subst a1;subst a2;subst a3
 refine q _ _ dr3 ord ks (λb o e=> ?_) (by rw[eN];exact Nat.le_of_lt (Heap.lt_size g4)) hi pk
 have hb:b<N:=eN ▸ Heap.lt_size e
 refine m.heap b o (λz=> ?_) (oth b o (Nat.ne_of_lt hb) (k1 _ _ (keep1 _ _ e)))
 simp only[List.mem_cons,List.not_mem_nil,or_false]at z
 rcases z with z | z
 ·exact Nat.ne_of_lt hb z
 ·exact Nat.ne_of_lt (Nat.lt_of_lt_of_le (Nat.lt_succ_of_lt hb) hI) z
theorem zzf{a:Addr}{ms:List Int}{Q:Value->Shared->Prop}(hh:A.handled=none)(S:IntSet P w s.heap a ms)(hn:ms.length<64)
  (q:∀ D h' tk d c out ks,(∀ b o,s.heap.get? b=some o->h'.get? b=some o)->s.heap.objs.size<=D->h'.get? D=some (seqObj "list" out c)->IntsAre out.toList ks->ks.Perm ms->ks.Pairwise (· <=·)->Q (.ref D) { s with heap:=h',toks:=tk,drawn:=d }) :
  wpAny (model P w) A (call (.builtin "sorted") [.ref a]) Q E s:=by
 refine Calls.call_function_entry kind_sorted plain_sorted entry_sorted (args_sorted1 _) ?_
 unfold Builtin.«sorted»
 refine wpAny_bind (m:=checkCount "sorted" 1 1 _) (wpAny_pure ?_)
 refine wpAny_bind (zxa (A:=A.in1) (by simpa using hh) S (by rw[sizeLine_eq];omega) λh1 tk d vs ks k1 size_le hi pk=> ?_)
 have hl:vs.length<64:=by rw[IntsAre.length hi,pk.length_eq];exact hn
 refine wpAny_bind (wpAny_newList ?_ (by rw[sizeLine_eq];omega))
 have g:(h1.push (seqObj "list" vs.toArray 0)).get? h1.objs.size=some (seqObj "list" vs.toArray 0):=Heap.get?_push_size _ rfl
 show wpAny _ _ _ _ _ { s with heap:=h1.push (seqObj "list" vs.toArray 0),toks:=tk,drawn:=d }
 refine wpAny_bind (wpAny_holding (wpAny_call_entry slot_list_sort ⟨_,g,rfl⟩ entry_list_sort (list_sort_tree g hi hl λout ks' i1 p1 r1=>⟨_,rfl,?_⟩) (args_list_sort _)))
 obtain⟨c,gc⟩:=sortedHeap_at (n:=0) (out:=out) g
 refine wpAny_pure ⟨_,rfl,q _ _ tk d c out ks' (λb o e=> ?_) size_le gc i1 (p1.trans pk) r1⟩
 have hb:=Heap.lt_size (k1 _ _ e)
 rw[sortedHeap_old (Nat.ne_of_lt hb) (by rw[size_push'];exact Nat.lt_succ_of_lt hb)]
 exact Heap.get?_push_of_some _ (k1 _ _ e)
end
end L2
set_option linter.all false
set_option maxRecDepth 100000
set_option maxHeartbeats 4000000
namespace L2
open PySem PyProof.Rows
section
variable{P:Program}{w:World}{A:Around}{E:Value->Shared->Prop}{s:Shared}
theorem zacz {l:Addr} {its:Array Value} {ns:List Int} {Q:Value->Shared->Prop} (hh:A.handled=none) (hl:s.heap.IsList l its) (hi:IntsAre its.toList ns) (hb:its.size+1<scanBound)
    (q:∀ h' tk,IntSet P w h' s.heap.objs.size (firstMet (λi=>ns.getD i 0) its.size)->(∀ b o,s.heap.get? b=some o->h'.get? b=some o)->Q (.ref s.heap.objs.size) { s with heap:=h',toks:=tk }) :
    wpAny (model P w) A (call (.type "set") [.ref l]) Q E s:=by
  obtain⟨c,tl,mro⟩:=PySem.F.called_set.mro
  have made:=PySem.F.called_set.made
  have sub:=PySem.F.called_set.sub
  refine wpAny_call (codeAny_of_tree ?_)
  show wpAny _ _ (callAny (.type "set") _) _ _ _
  refine wpAny_pure ⟨Code.quiet_builtin _ (by decide +kernel),codeAny_builtin PySem.F.entry_type_call ?_⟩
  rw[Around.under_plain (weight_type_call_type "set" [.ref l] []) rfl]
  have n1:=PySem.F.called_set.notType
  have n2:=PySem.F.called_set.canCreate
  have n3:=PySem.F.typeCall_set_1 (.ref l)
  repeat (any_goals (first | assumption | wp_step))
  generalize eS:({ cls:=.type "set",dict:=none,data:=.set #[] 0 (.fresh 0 0 (zw5 w)) }:Obj)=oS
  refine codeAny_mono (zafk (E:=E) (Q:=λx s1=>x=.ref s.heap.objs.size/\s1={ s with heap:=s.heap.push oS }) ⟨rfl,by rw[<-eS]⟩) λr s1 hr=> ?_
  cases r with
  | error e=>exact hr
  | ok fl =>
    cases fl with
    | ret x =>
      obtain⟨rfl,rfl⟩:=hr
      have g0:(s.heap.push oS).get? s.heap.objs.size=some oS:=Heap.get?_push_size _ (by rw[<-eS];rfl)
      have T0:Shared.TypeIs { s with heap:=s.heap.push oS } (.ref s.heap.objs.size) "set":=⟨_,g0,by rw[<-eS]⟩
      have i1:=PySem.F.called_set.init.lookup
      have i2:=PySem.F.called_set.init.bind (.ref s.heap.objs.size)
      repeat (any_goals (first | assumption | wp_step))
      refine codeAny_mono (codeAny_call_builtin (R:=wants (λr s2=>r=.none/\∃ h' tk,s2={ s with heap:=h',toks:=tk }/\IntSet P w h' s.heap.objs.size (firstMet (λi=>ns.getD i 0) its.size) ∧
        (∀ b o,s.heap.get? b=some o->h'.get? b=some o)) E) PySem.F.called_set.init.plain PySem.F.entry_set_init (check_set_init_1 T0 ?_)) λr2 s2 hr2=> ?_
      · obtain⟨ol,gl,cl,nl,dl⟩:=hl
        obtain⟨c1,d1,dt1,sl1⟩:=ol
        simp only at cl dl
        subst cl;subst dl
        have gl':=Heap.get?_push_of_some oS gl
        have e1:=PySem.F.sub_list_set
        have e2:=PySem.F.sub_list_frozenset
        have e3:(Value.type "list" == Value.type "dict")=false:=by decide
        have hl1:(s.heap.push oS).IsList l its:=⟨_,gl',rfl,nl,rfl⟩
        have hlt:l<s.heap.objs.size:=Heap.lt_size gl
        have big:=size_push' s.heap oS
        revert gl' hl1 g0 T0 big
        have keep0:∀ b o,s.heap.get? b=some o->(s.heap.push oS).get? b=some o:=λb o e=>Heap.get?_push_of_some _ e
        revert keep0
        generalize s.heap.push oS=h0
        intro keep0 g0 T0 gl' hl1 big
        subst eS
        unfold Builtin.«set.__init__» noKeywords Builtin.Frozenset.updateFrom
        generalize hPI:pyIter=PI
        wp_walk
        subst hPI
        refine wpAny_pyIter_list hl1 ?_
        refine wpAny_bind (wpAny_runValue ?_)
        have hh3:A.in1.in1.in1.handled=none:=by simp[hh]
        have ne1:l≠h0.objs.size:=Nat.ne_of_lt (by rw[big];exact Nat.lt_succ_of_lt hlt)
        have nin:s.heap.objs.size∉[h0.objs.size,l]:=by
          simp only[List.mem_cons,List.not_mem_nil,or_false,not_or]
          exact⟨Nat.ne_of_lt (by rw[big];exact Nat.lt_succ_self _),Nat.ne_of_gt hlt⟩
        refine zaa5 ((Walks.list hh3 _ l ne1 its).toS) s.heap.objs.size nin (λi=>ns.getD i 0) (λi v e=>IntsAre.int_at hi i v (by rw[Array.getElem?_toList];exact e)) hb (its.size - 0) 0 _ (by omega) (Nat.zero_le _)
          ⟨⟨_,Heap.get?_push_size _ rfl,rfl,rfl⟩,hl1.push _⟩ ⟨_,#[],0,_,Heap.get?_push_of_some _ g0,⟨rfl,rfl,rfl⟩,rfl,λe he=>by simp at he,by exact .nil,by decide,by rfl,Led.fresh _⟩ λs3 m S3=> ?_
        obtain⟨h3,g3,d3,tk3,os3⟩:=s3
        have a1:g3=s.gens:=m.gens
        have a2:d3=s.drawn:=m.drawn
        have a3:os3=s.os:=m.os
        subst a1;subst a2;subst a3
        show wpAny _ _ _ _ _ _
        refine wpAny_pure ?_
        show wpAny _ _ (ret Value.none) _ _ _
        refine wpAny_pure ⟨rfl,h3,tk3,rfl,S3,λb o e=> ?_⟩
        have hb:=Heap.lt_size e
        refine m.heap b o ?_ (Heap.get?_push_of_some _ (keep0 _ _ e))
        simp only[List.mem_cons,List.not_mem_nil,or_false,not_or]
        exact⟨Nat.ne_of_lt hb,Nat.ne_of_lt (by rw[big];exact Nat.lt_succ_of_lt hb)⟩
      · cases r2 with
        | error e=>exact hr2
        | ok fl2 =>
          cases fl2 with
          | ret r =>
            obtain⟨rfl,h',tk,rfl,S',k'⟩:=hr2
            repeat (any_goals (first | assumption | wp_step))
            exact q _ _ S' k'
          | _=>exact hr2.elim
    | _=>exact hr.elim
end
end L2
set_option linter.all false
set_option maxRecDepth 100000
namespace L2
open PySem PySem.Spec PyProof.Rows
section
variable{X:Cx}
theorem Inv.drawn{pins:List (Addr × Obj)}{σ:St}{H:Hp}{s:Shared}(I:Inv X pins σ H s)(d):Inv X pins σ H { s with drawn:=d } :=
 { ok:=I.ok,os:=I.os,bare:=I.bare,base:=I.base,loc:=I.loc,cell:=I.cell,free:=I.free,freeC:=I.freeC,pin:=I.pin,hok:=I.hok,len:=I.len }
theorem zoq:∀ {ns:List Int} {us:List Value},Vals (ns.map V.int) us->IntsAre us ns
  | [],_,.nil=>.nil
  | n::r,_,.cons h t=>by
    obtain⟨tk,rfl⟩:=h
    exact .cons _ _ (zoq t)
abbrev setX(X:Cx)(a:Addr)(ms:List Int):HO:=.ext λh=>IntSet X.prog X.w h a ms
theorem zxb(hc:X.calm=true):CallR X (.type "set") (λxs H Q=>∃ (p:Addr) (ns:List Int),xs=[.ref p]/\SqL X.K H p (ns.map V.int)/\ns.length<=1000 ∧
  ∀ (a:Addr),H a=none->Q (.ref a) (upd H a (setX X a (firstMet (λi=>ns.getD i 0) ns.length)))):=by
 intro pins s σ H xs us Q I r h
 obtain⟨p,ns,rfl,hq,hn,q⟩:=h
 obtain⟨u,rfl,rx⟩:=zwq r
 cases rx
 obtain⟨its,r',pl,hz⟩:=I.list hq
 have hi:=zoq r'
 have hlen:its.length=ns.length:=IntsAre.length hi
 refine zacz (I.ok.hd hc) pl.isList hi (by rw[List.size_toArray,hlen];exact Nat.lt_of_le_of_lt (Nat.succ_le_succ hn) (by decide)) λh' tk S k=> ?_
 have hz2:its.toArray.size=ns.length:=by rw[List.size_toArray,hlen]
 rw[hz2]at S
 refine⟨.ref s.heap.objs.size,_,I.laid k (Nat.le_refl _) ?_,rfl,q _ (I.hok.fresh (Nat.le_refl _))⟩
 exact⟨S,⟨_,S.choose_spec.choose_spec.choose_spec.choose_spec.1⟩,λh1 h2 z e=>z.at e⟩
theorem zrz(hc:X.calm=true):CallR X (.builtin "sorted") (λxs H Q=>∃ (a:Addr) (ms:List Int),xs=[.ref a]/\H a=some (setX X a ms)/\ms.length<64 ∧
  ∀ (D:Addr) (ks:List Int),H D=none->List.Perm ks ms->ks.Pairwise (· <=·)->Q (.ref D) (upd H D (.lst (ks.map V.int)))):=by
 intro pins s σ H xs us Q I r h
 obtain⟨a,ms,rfl,ha,hn,q⟩:=h
 obtain⟨u,rfl,rx⟩:=zwq r
 cases rx
 obtain⟨S,_,_⟩:=I.hok a _ ha
 refine zzf (I.ok.hd hc) S hn λD h' tk d c out ks k hD g hi pk hr=> ?_
 have hl:ks.length<64:=by rw[pk.length_eq];exact hn
 refine⟨.ref D,_,(I.laid (t':=tk) k hD ?_).drawn d,rfl,q D ks (I.hok.fresh hD) pk hr⟩
 exact⟨by rw[List.length_map,sizeLine_eq];omega,out.toList,c,zqk hi,g⟩
theorem zvi(val:Nat->Int)(n:Nat)(x:Int):x∈firstMet val n↔∃ i,i<n/\val i=x:=by
 have h:=firstMet_any val n x
 rw[Bool.eq_iff_iff,List.any_eq_true,List.any_eq_true]at h
 constructor
 ·intro hx
  obtain⟨y,hy,e⟩:=h.mp ⟨x,hx,beq_self_eq_true x⟩
  obtain⟨i,hi,rfl⟩:=List.mem_map.mp hy
  exact⟨i,List.mem_range.mp hi,eq_of_beq e⟩
 ·rintro ⟨i,hi,rfl⟩
  obtain⟨y,hy,e⟩:=h.mpr ⟨val i,List.mem_map.mpr ⟨i,List.mem_range.mpr hi,rfl⟩,beq_self_eq_true _⟩
  exact eq_of_beq e ▸ hy
theorem zhz(val:Nat->Int):∀ n,(firstMet val n).Nodup
  | 0=>by rw[firstMet_zero];exact List.nodup_nil
  | n + 1=>by
    rw[firstMet_succ]
    by_cases h:val n∈firstMet val n
    ·rw[zvf h];exact zhz val n
    · rw[zvg h]
      exact List.nodup_append.mpr ⟨zhz val n,by simp,λa ha b hb e=>by rw[List.mem_singleton]at hb;subst hb;subst e;exact h ha⟩
theorem zaa9:∀ {l:List Int},l.Pairwise (· <=·)->l.Nodup->l.Pairwise (· <·)
  | [],_,_=>.nil
  | x::r,h,n=>by
    obtain⟨h1,h2⟩:=List.pairwise_cons.mp h
    obtain⟨n1,n2⟩:=List.nodup_cons.mp n
    refine List.pairwise_cons.mpr ⟨λy hy=> ?_,zaa9 h2 n2⟩
    have:=h1 y hy
    have:x≠y:=λz=>n1 (z ▸ hy)
    omega
def zp9(K:PySem.W.Frag)(te:TE):TE:=λσ H Q=>te σ H λx H1=>∃ (p:Addr) (ns:List Int),x=.ref p/\SqL K H1 p (ns.map V.int)/\ns.length<64 ∧
 ∀ (a:Addr) (o:HO) (D:Addr) (ks:List Int),H1 a=none->upd H1 a o D=none->ks.Pairwise (· <·)->(∀ x,x∈ks↔x∈ns)->ks.length<=ns.length->Q (.ref D) (upd (upd H1 a o) D (.lst (ks.map V.int)))
def clo(te:TE):TE:=λσ H Q=>∃ C:VK,te σ H C/\∀ x H1,C x H1->Q x H1
theorem PE.clo{e:Expr}{te:TE}(h:PE X e te):PE X e (clo te):=λpins s σ H Q I ⟨C,q,m⟩=>thn (h pins s σ H C I q) λv s' ⟨x,H1,I1,r1,q1⟩=>⟨x,H1,I1,r1,m _ _ q1⟩
theorem zs9{e:Expr}{te:TE}{p1 p2 p3 p4:Pos}(hc:X.calm=true)(g1:Gl X "sorted")(m1:X.mg "sorted"=none)(g2:Gl X "set")(m2:X.mg "set"=none)(h:PE X e te)
  (he:starEach [e] X.env=[(false,eval e X.env)]:=by rfl) :
  PE X (.Call (.Name "sorted" p1) [.Call (.Name "set" p2) [e] [] p3] [] p4) (zp9 X.K te):=λpins s σ H Q I q=>by
 refine(zch (zrz hc) g1 m1 (by rfl) (zaa (zf0 (zxb hc) g2 m2 (by rfl) (zaa h.clo zaf he) (he:=he)) zaf)) pins s σ H Q I ?_
 refine⟨_,q,λx H1 ⟨p,ns,e1,hq,hn,q1⟩=> ?_⟩
 subst e1
 refine⟨p,ns,rfl,hq,by omega,λa ha=>⟨a,_,rfl,zac,?_,λD ks hD pk hr=> ?_⟩⟩
 ·exact Nat.lt_of_le_of_lt (firstMet_length_le ..) hn
 ·have nd:=zhz (λi=>ns.getD i 0) ns.length
  refine q1 a _ D ks ha hD (zaa9 hr (pk.nodup_iff.mpr nd)) (λx=> ?_) (by rw[pk.length_eq];exact firstMet_length_le ..)
  rw[pk.mem_iff,zvi]
  refine⟨λ⟨i,hi,e⟩=> ?_,λhx=> ?_⟩
  ·rw[<-e]
   simp[List.getD,hi]
  ·obtain⟨i,hi,e⟩:=List.getElem_of_mem hx
   exact⟨i,hi,by simp[List.getD,hi,e]⟩
end
end L2
set_option linter.all false
set_option maxRecDepth 100000
namespace L2
open PySem PySem.Spec PyProof.Rows
def Itv(K:PySem.W.Frag)(a:Addr)(n:Nat):It :=
 ⟨λi H=>i<n/\∃ xs,SqL K H a xs/\xs.length=n,λi H x H'=>H'=H/\∀ xs,SqL K H a xs->xs[n - 1 - i]? =some x,λi _=>n<=i⟩
def iRev(K:PySem.W.Frag)(ta:TA):TI:=λσ H R=>ta σ H λvs H1=>∃ a xs,vs=[.ref a]/\SqL K H1 a xs/\R (Itv K a xs.length) H1
section
variable{X:Cx}{tg:Expr}
def zahs(K:PySem.W.Frag)(te:TE)(ts:TO):TE:=λσ H Q=>te σ H λx H1=>ts σ H1 λk H2=>k=some (-1)/\∃ a xs,x=.ref a/\SqL K H2 a xs/\∀ p,H2 p=none->Q (.ref p) (upd H2 p (.lst xs.reverse))
theorem zaba{K:PySem.W.Frag}{te:TE}{ts:TO}{σ:St}{H:Hp}{Q:VK}:zahs K te ts σ H Q=(te σ H λx H1=>ts σ H1 λk H2=>k=some (-1)/\∃ a xs,x=.ref a/\SqL K H2 a xs/\∀ p,H2 p=none->Q (.ref p) (upd H2 p (.lst xs.reverse))):=rfl
def zaiv(ta:TA):TE:=λσ H Q=>ta σ H λvs H1=>∃ k:Nat,vs=[.int k]/\k<=100000/\∀ p,H1 p=none->Q (.ref p) (upd H1 p (.lst (ups k)))
theorem zac0{ta:TA}{σ:St}{H:Hp}{Q:VK}:zaiv ta σ H Q=(ta σ H λvs H1=>∃ k:Nat,vs=[.int k]/\k<=100000/\∀ p,H1 p=none->Q (.ref p) (upd H1 p (.lst (ups k)))):=rfl
def zhl(K:PySem.W.Frag):List V->Hp->VK->Prop:=λxs H Q=>∃ (p:Addr) (kvs:List (Key × V)),xs=[.ref p]/\H p=some (.dK kvs)/\∀ l,H l=none->Q (.ref l) (upd H l (.dK kvs))
theorem zzg:CallR X (.type "dict") (zhl X.K):=by
 intro pins s σ H xs us Q I r h
 obtain⟨p,kvs,rfl,hp,q⟩:=h
 obtain⟨u,rfl,rx⟩:=zwq r
 cases rx
 exact zab6 I (.inl hp) λl s' hl I'=>⟨.ref l,_,I',rfl,q l hl⟩
theorem zaht{K:PySem.W.Frag}{p:Addr}{H:Hp}{Q:VK}:zhl K [.ref p] H Q=∃ kvs,H p=some (.dK kvs)/\∀ l,H l=none->Q (.ref l) (upd H l (.dK kvs)):=by simp[zhl]
end
theorem zxc{K:PySem.W.Frag}{as:TA}{g:TG}{s1:TS}{D:Ends}{σ:St}{H:Hp}:tFor (iRev K as) g s1 D σ H=(as σ H λvs H1=>∃ a xs,vs=[.ref a]/\SqL K H1 a xs/\zoy (Itv K a xs.length) g s1 D σ H1):=rfl
section
variable{K:PySem.W.Frag}{tt:TT}{cap:List Nat}{σ:St}{H:Hp}{Q:VK}
theorem zxd {n:Nat} (p:Nat->Bool) (hn:n<=sizeLine) (ht:∀ i,i<n->∀ QB:Bool->Hp->Prop,QB (p i) H->tt (some (.int (i:Int))::capV cap σ) H QB)
    (hd:∀ q,H q=none->Q (.ref q) (upd H q (.lst (((List.range n).filter p).map λ(i:Nat)=>V.int i)))):zts (Itr 0 n) (zaz 0) tt (tVr 0) 1 cap σ H Q:=by
  refine⟨λi m σ' ys H'=>m=n - i/\i<=n/\H'=H/\(∃ x0,σ'=x0::capV cap σ)/\ys=((List.range i).filter p).map λ(i:Nat)=>V.int i,⟨n,by simp,Nat.zero_le _,rfl,⟨none,rfl⟩,rfl⟩,?_⟩
  rintro i m σ' ys H' ⟨rfl,hi,rfl,⟨x0,rfl⟩,rfl⟩
  by_cases hlt:i<n
  · refine .inr ⟨hlt,?_,λx H2 y=> ?_⟩
    · rw[List.length_map]
      have:=List.length_filter_le p (List.range i)
      rw[List.length_range]at this
      omega
    · obtain⟨e,y⟩:=y
      subst e y
      rw[Int.zero_add]
      simp only[zaz,List.set_cons_zero]
      refine ht i hlt _ ?_
      cases hp:p i with
      | true =>
        rw[if_pos rfl]
        refine⟨λv H4=>v=.int i/\H4=H2,λy H4 ⟨e1,e2⟩=>⟨n - (i+1),by omega,rfl,hlt,e2,⟨_,rfl⟩,?_⟩,?_⟩
        · rw[e1,List.range_succ,List.filter_append,List.map_append]
          simp[hp]
        ·simp[tVr]
      | false =>
        rw[if_neg Bool.false_ne_true]
        refine⟨n - (i+1),by omega,rfl,hlt,rfl,⟨_,rfl⟩,?_⟩
        rw[List.range_succ,List.filter_append,List.map_append]
        simp[hp]
  · have e:i=n:=by omega
    subst e
    exact .inl ⟨Nat.le_refl _,hd⟩
theorem zzh {b:Addr} {xs:List V} (p:V->Bool) (hn:xs.length<=sizeLine) (hq:SqL K H b xs) (ht:∀ x∈xs,∀ QB:Bool->Hp->Prop,QB (p x) H->tt (some x::capV cap σ) H QB)
    (hd:∀ q,H q=none->Q (.ref q) (upd H q (.lst (xs.filter p)))):zts (Itl K b) (zaz 0) tt (tVr 0) 1 cap σ H Q:=by
  refine⟨λi m σ' ys H'=>m=xs.length - i/\i<=xs.length/\H'=H/\(∃ x0,σ'=x0::capV cap σ)/\ys=(xs.take i).filter p,⟨xs.length,by simp,Nat.zero_le _,rfl,⟨none,rfl⟩,by simp⟩,?_⟩
  rintro i m σ' ys H' ⟨rfl,hi,rfl,⟨x0,rfl⟩,rfl⟩
  by_cases hlt:i<xs.length
  · refine .inr ⟨⟨xs,xs[i],hq,by simp[hlt]⟩,?_,λx H2 y=> ?_⟩
    · have:=List.length_filter_le p (xs.take i)
      rw[List.length_take]at this
      omega
    · obtain⟨e,y⟩:=y
      subst e
      have hx:=y xs hq
      have et:xs.take (i+1)=xs.take i++[x]:=by
        obtain⟨h1,h2⟩:=List.getElem?_eq_some_iff.mp hx
        rw[<-h2,List.take_append_getElem]
      simp only[zaz,List.set_cons_zero]
      refine ht x (List.mem_of_getElem? hx) _ ?_
      cases hp:p x with
      | true =>
        rw[if_pos rfl]
        refine⟨λv H4=>v=x/\H4=H2,λy H4 ⟨e1,e2⟩=>⟨xs.length - (i+1),by omega,rfl,hlt,e2,⟨_,rfl⟩,?_⟩,?_⟩
        · rw[et,List.filter_append,e1]
          simp[hp]
        ·simp[tVr]
      | false =>
        rw[if_neg Bool.false_ne_true]
        refine⟨xs.length - (i+1),by omega,rfl,hlt,rfl,⟨_,rfl⟩,?_⟩
        rw[et,List.filter_append]
        simp[hp]
  · have e:i=xs.length:=by omega
    subst e
    refine .inl ⟨⟨xs,hq,Nat.le_refl _⟩,λq hq'=> ?_⟩
    rw[List.take_length]
    exact hd q hq'
end
section
variable{K:PySem.W.Frag}{td ty tv te:TE}{D:Ends}{σ:St}{H:Hp}{Q:VK}{QB:Bool->Hp->Prop}
theorem zac1:zhy td ty σ H Q=(td σ H λx H1=>ty σ H1 λy H2=>∃ a v,x=.ref a/\DGet H2 a y (some v)/\Q v H2):=rfl
theorem zafl:tDIn ty td σ H Q=(ty σ H λy H1=>td σ H1 λx H2=>∃ a o,x=.ref a/\DGet H2 a y o/\Q (.bl o.isSome) H2):=rfl
theorem zzi:zkg ty td σ H Q=(ty σ H λy H1=>td σ H1 λx H2=>∃ a o,x=.ref a/\DGet H2 a y o/\Q (.bl (!o.isSome)) H2):=rfl
theorem zac2:ztl td ty tv D σ H=(tv σ H λv H1=>td σ H1 λx H2=>ty σ H2 λy H3=>∃ a H4,x=.ref a/\DPut H3 a y v H4/\D.nx σ H4):=rfl
theorem zabb:zaah td ty σ H Q=(td σ H λx H1=>∃ a,x=.ref a/\IsD H1 a/\ty σ H1 λy H2=>∃ o,DGet H2 a y o/\Q (o.getD .non) H2):=rfl
theorem zabc:zx7 σ H Q=(∀ p,H p=none->Q (.ref p) (upd H p (.dK []))):=rfl
theorem zabd:zx8 σ H Q=(∀ p,H p=none->Q (.ref p) (upd H p (.dT []))):=rfl
theorem zaiw:tB te σ H QB=(te σ H λx H1=>∃ c,x=.bl c/\QB c H1):=rfl
theorem zxe:zp9 K te σ H Q=(te σ H λx H1=>∃ (p:Addr) (ns:List Int),x=.ref p/\SqL K H1 p (ns.map V.int)/\ns.length<64 ∧
 ∀ (a:Addr) (o:HO) (D:Addr) (ks:List Int),H1 a=none->upd H1 a o D=none->ks.Pairwise (· <·)->(∀ x,x∈ks↔x∈ns)->ks.length<=ns.length->Q (.ref D) (upd (upd H1 a o) D (.lst (ks.map V.int)))):=rfl
variable{a b:Addr}{i j:Int}{z:Str}{kvs:List (Key × V)}{kvt:List (List Key × V)}{v:V}
theorem dI(e:H a=some (.dK kvs)):DGet H a (.int i) (valV kvs (.inl i)):=DGet.k (k:=.inl i) e
theorem dS(e:H a=some (.dK kvs)):DGet H a (.str z) (valV kvs (.inr z)):=DGet.k (k:=.inr z) e
theorem dT2(e:H a=some (.dT kvt))(eb:H b=some (.tup [.int i,.int j])):DGet H a (.ref b) (valV kvt [.inl i,.inl j]):=DGet.t (k:=[.inl i,.inl j]) e eb
theorem dS'(e:H a=some (.dK kvs))(h:valV kvs (.inr z)=some v):DGet H a (.str z) (some v):=h ▸ dS e
theorem dT2'(e:H a=some (.dT kvt))(eb:H b=some (.tup [.int i,.int j]))(h:valV kvt [.inl i,.inl j]=some v):DGet H a (.ref b) (some v):=h ▸ dT2 e eb
theorem pI(e:H a=some (.dK kvs))(hl:kvs.length<100000):DPut H a (.int i) v (upd H a (.dK (putK kvs (.inl i) v))):=DPut.k (k:=.inl i) e (Nat.lt_of_lt_of_le hl (by decide))
theorem pS(e:H a=some (.dK kvs))(hl:kvs.length<100000):DPut H a (.str z) v (upd H a (.dK (putK kvs (.inr z) v))):=DPut.k (k:=.inr z) e (Nat.lt_of_lt_of_le hl (by decide))
theorem pT2(e:H a=some (.dT kvt))(eb:H b=some (.tup [.int i,.int j]))(hl:kvt.length<100000):DPut H a (.ref b) v (upd H a (.dT (putK kvt [.inl i,.inl j] v))):=DPut.t (k:=[.inl i,.inl j]) e eb (Nat.lt_of_lt_of_le hl (by decide))
end
end L2
set_option linter.all false
set_option maxRecDepth 100000
namespace L2
open PySem PySem.Spec PyProof.Rows
section
variable{X:Cx}
abbrev rInA(K:PySem.W.Frag):R2:=rIn K false
theorem zadq(hu:X.A.units+64<cLine):OpR X (compareOp .In) (rInA X.K):=zaaa
def rIsT:R2:=λx y H Q=>∃ c,y=.bl c/\(∀ p,x≠.ref p)/\(∀ T,x≠.ty T)/\Q (.bl (decide (x=.bl c))) H
end
theorem SqT.same{K:PySem.W.Frag}{H H':Hp}{a:Addr}{xs:List V}(e:Same H H')(h:SqT K H a xs):SqT K H' a xs:=by
 rcases h with(h | ⟨o,h⟩) | h
 ·exact .inl (.inl (e _ _ h))
 ·exact .inl (.inr ⟨o,e _ _ h⟩)
 ·exact .inr h
mutual
theorem Rep.same{K:PySem.W.Frag}{H H':Hp}(s:Same H H'):∀ {v:V} {d:PyData},Rep K H v d->Rep K H' v d
 | _,_,.non=>.non
 | _,_,.bl b=>.bl b
 | _,_,.int i=>.int i
 | _,_,.str x=>.str x
 | _,_,.lst h r=>.lst (s.seq h) (RepAll.same s r)
 | _,_,.tup h r=>.tup (SqT.same s h) (RepAll.same s r)
theorem RepAll.same{K:PySem.W.Frag}{H H':Hp}(s:Same H H'):∀ {vs:List V} {ds:List PyData},RepAll K H vs ds->RepAll K H' vs ds
 | _,_,.nil=>.nil
 | _,_,.cons h r=>.cons (Rep.same s h) (RepAll.same s r)
end
def Dat(K:PySem.W.Frag)(H:Hp)(n:Nat)(v:V)(d:PyData):Prop:=Rep K H v d/\d.canLay0=true/\d.depth<=n
section
variable{K:PySem.W.Frag}{H:Hp}{n:Nat}{Q:VK}
theorem Dat.int(i:Int):Dat K H n (.int i) (.int i):=⟨.int i,rfl,Nat.zero_le _⟩
theorem Dat.non:Dat K H n .non .none:=⟨.non,rfl,Nat.zero_le _⟩
theorem zxf:∀ {xs:List V} {ds:List PyData},Paired (Dat K H n) xs ds->RepAll K H xs ds/\PyData.canLayAll0 ds=true/\PyData.depthAll ds<=n
  | _,_,.nil=>⟨.nil,rfl,Nat.zero_le _⟩
  | _,_,.cons h t=>by
    obtain⟨a1,a2,a3⟩:=zxf t
    refine⟨.cons h.1 a1,?_,?_⟩
    ·simp[PyData.canLayAll0,h.2.1,a2]
    ·simp only[PyData.depthAll];exact Nat.max_le.mpr ⟨h.2.2,a3⟩
theorem Dat.lst{p:Addr}{xs:List V}{ds:List PyData}(h:SqL K H p xs)(hs:Paired (Dat K H n) xs ds):Dat K H (n+1) (.ref p) (.list ds):=by
 obtain⟨a1,a2,a3⟩:=zxf hs
 exact⟨.lst h a1,by simpa [PyData.canLay0]using a2,by simpa [PyData.depth]using a3⟩
theorem Dat.tup{p:Addr}{xs:List V}{ds:List PyData}(h:SqT K H p xs)(hs:Paired (Dat K H n) xs ds):Dat K H (n+1) (.ref p) (.tuple ds):=by
 obtain⟨a1,a2,a3⟩:=zxf hs
 exact⟨.tup h a1,by simpa [PyData.canLay0]using a2,by simpa [PyData.depth]using a3⟩
theorem Dat.shp{v:V}{d:PyData}(h:Dat K H n v d)(hn:n<=64):shp d:=by
 unfold L2.shp PySem.SeqAt.shaped
 rw[h.2.1]
 simpa using Nat.le_trans h.2.2 hn
theorem zadr{p q:Addr}{d:PyData}(hn:n<=64)(h1:Dat K H n (.ref p) d)(h2:Dat K H n (.ref q) d)(hq:Q (.bl false) H):rNeA K (.ref p) (.ref q) H Q:=by
 unfold rNeA
 rw[if_neg (by simp[scal])]
 refine⟨_,_,h1.1,h2.1,h1.shp hn,h1.shp hn,?_⟩
 rw[zyh (h1.shp hn)]
 exact hq
end
end L2
namespace L2
open PySem PySem.Spec PyProof.Rows
theorem zahu{i:Int}{c:Bool}{H:Hp}{Q:VK}:rIsT (.int i) (.bl c) H Q=Q (.bl false) H:=by simp[rIsT]
theorem zahv{c:Bool}{H:Hp}{Q:VK}:rIsT .non (.bl c) H Q=Q (.bl false) H:=by simp[rIsT]
end L2
set_option linter.all false
set_option maxRecDepth 100000
namespace L2
open PySem PySem.Spec PyProof.Rows
section
variable{prog:Program}{w:World}{A:Around}{E:Value->Shared->Prop}{s:Shared}{d it:Addr}{od:Obj}{es:Array DictEntry}{ep i:Nat}
theorem zafm{Q:Value->Shared->Prop}(hd:(d == sysModules)=false)(ho:s.heap.get? d=some od)(hx:od.ExactDict)(hdat:od.data=.dict es ep)
  (hQ:Q (.ref s.heap.objs.size) { s with heap:=s.heap.push { cls:=.type "dict_keyiterator",data:=.fields #[.ref d,.int 0 0,.int es.size 0,.int ep 0] } }) :
  wpAny (model prog w) A (pyIter (.ref d)) Q E s:=by
 have hT:s.TypeIs (.ref d) "dict":=⟨od,ho,hx.1⟩
 refine wpAny_pyIter_slot hT F.slot_dict_iter (wpAny_call_entry F.slot_dict_iter hT F.entry_dict_iter ?_ (F.args_dict_iter_1 _))
 unfold Builtin.«dict.__iter__» Builtin.Dict.dictSlotNone
 refine wpAny_bind (wpAny_bind (wpAny_notOrdered_dict hT (wpAny_pure ?_)))
 show wpAny _ _ (Builtin.Dict.showsAll d >>= _) _ _ s
 unfold Builtin.Dict.showsAll
 rw[if_neg (by rw[hd];exact Bool.false_ne_true)]
 refine wpAny_bind (wpAny_pure (wpAny_bind (wpAny_dictEntries ho hdat (wpAny_bind (wpAny_dictEpoch ho hdat ?_)))))
 refine wpAny_bind (wpAny_newObj_type (wpAny_pure ⟨_,rfl,"dict_keyiterator",_,⟨_,Heap.get?_push_size _ rfl,rfl⟩,F.slot_dict_keyiterator_next.lookup,?_⟩))
 simpa [rawInt]using hQ
theorem zafn{Q:Option Value->Shared->Prop}(hit:s.heap.IsKeyIter it d i es.size ep)(hod:s.heap.get? d=some od)(hdd:od.data=.dict es ep){e:DictEntry}(he:es[i]? =some e)
  (hQ:∀ h',h'.IsKeyIter it d (i+1) es.size ep->Heap.SameBut it s.heap h'->Q (some e.key) { s with heap:=h' }) :
  wpAny (model prog w) A (pyNext (.ref it)) Q E s:=by
 obtain⟨o,ho,hc,hd⟩:=id hit
 unfold pyNext
 refine wpAny_bind (wpAny_attempt (wpAny_callSpecial?_slot (name:=Str.ofString "__next__") hit.typeIs F.slot_dict_keyiterator_next
  (wpAny_call_entry F.slot_dict_keyiterator_next hit.typeIs F.entry_dict_keyiterator_next ?_ (F.args_dict_keyiterator_next_1 _))))
 refine wpAny_bind (wpAny_pure (wpAny_bind (wpAny_bind ?_)))
 first | refine wpAny_bind (wpAny_typeNameOfWhole_keyiter hit.typeIs (wpAny_pure ?_)) | refine wpAny_bind (wpAny_typeNameOf_keyiter hit.typeIs (wpAny_pure ?_))
 refine wpAny_bind (wpAny_fieldsOf ho hd ?_)
 have hown:Builtin.Dict_items.ownsTuple "dict_keyiterator"=false:=by decide
 simp only[hown,Bool.false_eq_true,if_false]
 show wpAny _ _ (if(Value.ref d == Value.none)=true then _ else _) _ _ s
 rw[if_neg (show ¬ ((Value.ref d == Value.none)=true)from Bool.false_ne_true)]
 refine wpAny_bind (wpAny_pure (wpAny_bind (wpAny_dictEntries hod hdd ?_)))
 rw[if_neg (by simp)]
 refine wpAny_bind (wpAny_pure (wpAny_bind (wpAny_dictEpoch hod hdd ?_)))
 rw[if_neg (by simp)]
 refine wpAny_pure ?_
 simp only[show ¬ ((i:Int)<0)from by omega,if_false,Int.toNat_natCast,he]
 refine wpAny_bind ?_
 first | refine wpAny_bind (wpAny_typeNameOfWhole_keyiter hit.typeIs (wpAny_pure ?_)) | refine wpAny_bind (wpAny_typeNameOf_keyiter hit.typeIs (wpAny_pure ?_))
 refine wpAny_bind (wpAny_isOneOf_keyiter hit.typeIs ?_)
 show wpAny _ _ (setField (.ref it) 1 (rawInt ((i:Int)+1)) >>= _) _ _ s
 refine wpAny_bind (wpAny_setField ho hd (by simp) ?_)
 have hit':(s.heap.update it (Obj.mapFields (·.setIfInBounds 1 (rawInt ((i:Int)+1))))).IsKeyIter it d (i+1) es.size ep :=
  ⟨_,Heap.get?_update_self _ ho (Obj.isFreed_of_fields (Obj.data_mapFields hd _)),(Obj.cls_mapFields ..).trans hc,by rw[Obj.data_mapFields hd];simp[rawInt]⟩
 refine wpAny_bind (wpAny_holding (wpAny_bind (wpAny_isOneOf_keyiter (s:={ s with heap:=s.heap.update it (Obj.mapFields (·.setIfInBounds 1 (rawInt ((i:Int)+1)))) }) hit'.typeIs ?_)))
 show wpAny _ _ (pure e.key) _ _ _
 exact wpAny_pure (wpAny_pure ⟨_,rfl,wpAny_pure (hQ _ hit' (Heap.SameBut.update ..))⟩)
theorem zahw{Q:Option Value->Shared->Prop}(hh:A.handled=none)(hit:s.heap.IsKeyIter it d i es.size ep)(hod:s.heap.get? d=some od)(hdd:od.data=.dict es ep)(hge:es.size<=i)
  (hQ:∀ h',Heap.ExtBut it s.heap h'->Q none { s with heap:=h' }):wpAny (model prog w) A (pyNext (.ref it)) Q E s:=by
 obtain⟨o,ho,hc,hd⟩:=id hit
 unfold pyNext
 refine wpAny_bind (wpAny_attempt (wpAny_callSpecial?_slot (name:=Str.ofString "__next__") hit.typeIs F.slot_dict_keyiterator_next
  (wpAny_call_entry F.slot_dict_keyiterator_next hit.typeIs F.entry_dict_keyiterator_next ?_ (F.args_dict_keyiterator_next_1 _))))
 refine wpAny_bind (wpAny_pure (wpAny_bind (wpAny_bind ?_)))
 first | refine wpAny_bind (wpAny_typeNameOfWhole_keyiter hit.typeIs (wpAny_pure ?_)) | refine wpAny_bind (wpAny_typeNameOf_keyiter hit.typeIs (wpAny_pure ?_))
 refine wpAny_bind (wpAny_fieldsOf ho hd ?_)
 have hown:Builtin.Dict_items.ownsTuple "dict_keyiterator"=false:=by decide
 simp only[hown,Bool.false_eq_true,if_false]
 show wpAny _ _ (if(Value.ref d == Value.none)=true then _ else _) _ _ s
 rw[if_neg (show ¬ ((Value.ref d == Value.none)=true)from Bool.false_ne_true)]
 refine wpAny_bind (wpAny_pure (wpAny_bind (wpAny_dictEntries hod hdd ?_)))
 rw[if_neg (by simp)]
 refine wpAny_bind (wpAny_pure (wpAny_bind (wpAny_dictEpoch hod hdd ?_)))
 rw[if_neg (by simp)]
 refine wpAny_pure ?_
 simp only[show ¬ ((i:Int)<0)from by omega,if_false,Int.toNat_natCast,Array.getElem?_eq_none hge]
 refine wpAny_bind ?_
 first | refine wpAny_bind (wpAny_typeNameOfWhole_keyiter hit.typeIs (wpAny_pure ?_)) | refine wpAny_bind (wpAny_typeNameOf_keyiter hit.typeIs (wpAny_pure ?_))
 show wpAny _ _ (setField (.ref it) 0 .none >>= _) _ _ s
 refine wpAny_bind (wpAny_setField ho hd (by simp) ?_)
 show wpAny _ _ (newExc (.type "StopIteration") [] >>= _) _ _ _
 refine wpAny_bind ?_
 simp only[newExc,newTuple]
 refine wpAny_bind (wpAny_newObj_type ?_ (by size_fits))
 refine wpAny_bind (m:=firstArgMember _ _) (wpAny_of_eq (a:=Value.none) (by first | rfl | (simp only[firstArgMember];rfl)) ?_)
 refine wpAny_newObj_type ?_ (by size_fits)
 simp only[raiseNew]
 refine wpAny_bind (wpAny_handled ?_)
 rw[show A.in1.handled=none from hh]
 refine wpAny_bind (wpAny_pure (wpAny_throw ?_))
 refine wpAny_bind (wpAny_isInstance (T:="StopIteration") (b:=true) ⟨_,Heap.get?_push_size _ rfl,rfl⟩ isSubtype_stop ?_)
 exact wpAny_pure (hQ _ (((Heap.SameBut.update ..).extBut.push _).push _))
end
def Itd(d:Addr)(o:Obj)(kvs:List (List Key × V)):It :=
 ⟨λi H=>H d=some (.frz o (.dT kvs))/\i<kvs.length,λi H x H'=>H'=H/\∃ b k v,x=.ref b/\kvs[i]? =some (k,v)/\H b=some (.tup (k.map kV)),λi H=>H d=some (.frz o (.dT kvs))/\kvs.length<=i⟩
theorem zabe{P:Program}{w:World}{K:PySem.W.Frag}{tg:Expr}(d it:Addr){o:Obj}{kvs:List (List Key × V)}{es:Array DictEntry}{ep:Nat}(hdat:o.data=.dict es ep):Turn P w K tg (Itd d o kvs) [it] it (λi h=>h.IsKeyIter it d i es.size ep) where
 mem:=by simp
 obj:=λi h st b hb=>by
  have e:b=it:=by simpa using hb
  subst e
  obtain⟨o,e,c,d⟩:=st
  exact⟨o,e,λv z=>by rw[d]at z;cases z⟩
 keep:=λi h h' st k=>st.at λo e=>k it (by simp) o e
 item:=by
  intro X hP hw hK hc i pins s σ H E I hf st hg
  subst hP hw hK
  obtain⟨hq,hi⟩:=hg
  obtain⟨h1,z,y,xs,r,o',es',ep',g1,g2,g3,g4,g5⟩:=(show ObjOk X.prog X.w H s.heap d (.frz o (.dT kvs))from I.hok d _ hq)
  rw[h1]at g1;cases g1
  rw[hdat]at g3;cases g3
  obtain⟨f0,f1,f2,f3,f4,f5⟩:=hf it (by simp)
  have hx:=List.getElem?_eq_getElem hi
  have hl:xs.length=kvs.length:=r.length.symm
  obtain⟨x,ex,hx2⟩:∃ x,xs[i]? =some x/\(kvs[i].1=x.1/\H x.2.1=some (.tup (kvs[i].1.map kV))/\RelV kvs[i].2 x.2.2):=by
   have hix:i<xs.length:=by omega
   obtain⟨y,e1,e2⟩:=zfm r (List.getElem?_eq_getElem hix)
   rw[hx]at e1
   cases e1
   exact⟨_,List.getElem?_eq_getElem hix,e2⟩
  have he:es[i]? =some (entryOfKey (tupleKind (zdt X.prog X.w)) x):=by
   rw[<-Array.getElem?_toList,g4,List.getElem?_map,ex];rfl
  refine zafn st h1 hdat he λh' st' sb=> ?_
  have I1:Inv X pins σ H { s with heap:=h' }:=I.turned (t':=s.toks) (λb o hb e=>(sb.2 b hb).trans e) f0 f1 f3 f4 f5
  obtain⟨o2,e2,c2,d2⟩:=id st'
  exact⟨_,rfl,zabs (s:={ s with heap:=h' }) e2 c2 d2 (by decide) ⟨.ref x.2.1,H,I1,rfl,⟨rfl,x.2.1,kvs[i].1,kvs[i].2,rfl,hx,hx2.2.1⟩,st',λb hb=>(hf b hb).1⟩⟩
 done:=by
  intro X hP hw hK hc i pins s σ H E I hf st hg
  subst hP hw hK
  obtain⟨hq,hi⟩:=hg
  obtain⟨h1,z,y,xs,r,o',es',ep',g1,g2,g3,g4,g5⟩:=(show ObjOk X.prog X.w H s.heap d (.frz o (.dT kvs))from I.hok d _ hq)
  rw[h1]at g1;cases g1
  rw[hdat]at g3;cases g3
  obtain⟨f0,f1,f2,f3,f4,f5⟩:=hf it (by simp)
  have hes:es.size=kvs.length:=by
   rw[<-Array.length_toList,g4,List.length_map,r.length]
  exact zahw (I.ok.hd hc) st h1 hdat (by omega) λh' eb=>⟨rfl,I.turned (t':=s.toks) (λb o hb e=>eb b o hb e) f0 f1 f3 f4 f5⟩
 self:=λ_ _ _ _ _ st h=>wpAny_pyIter_keyiter st h
def zafo(te:TE):TI:=λσ H R=>te σ H λx H1=>∃ d kvs,x=.ref d/\H1 d=some (.dT kvs)/\∀ o,R (Itd d o kvs) (upd H1 d (.frz o (.dT kvs)))
theorem zafp{X:Cx}{tg a:Expr}{te:TE}(ha:PE X a te):PI X tg a (zafo te):=by
 intro pins s σ H R I h
 refine thn (ha pins s σ H _ I h) λv s1 ⟨x,H1,I1,r1,d,kvs,e,hd,q⟩=> ?_
 subst e
 cases r1
 obtain⟨z,y,xs,r,o,es,ep,g1,g2,g3,g4,g5⟩:=(show ObjOk X.prog X.w H1 s1.heap d (.dT kvs)from I1.hok d _ hd)
 refine zafm y g1 g2 g3 ?_
 have new:ObjOk X.prog X.w (upd H1 d (.frz o (.dT kvs))) s1.heap d (.frz o (.dT kvs)):=⟨g1,(I1.hok d _ hd).stay (λ_ _ _ e=>e) (λb e=>by rw[zag (zbe e hd (by intro z;cases z))];exact e) λb xs e=>by rw[zag (zbe e hd (by intro z;cases z))];exact e⟩
 have I2:Inv X pins σ (upd H1 d (.frz o (.dT kvs))) { s1 with heap:=s1.heap,toks:=s1.toks }:=I1.write (by rw[hd];trivial) (.inl rfl) (λ_ _ _ e=>e) ⟨o,g1⟩ new
 have I3:Inv X pins σ (upd H1 d (.frz o (.dT kvs))) { s1 with heap:=s1.heap.push { cls:=.type "dict_keyiterator",data:=.fields #[.ref d,.int 0 0,.int es.size 0,.int ep 0] } }:=I2.kept (t':=s1.toks) λb o e=>Heap.get?_push_of_some _ e
 exact⟨_,[s1.heap.objs.size],_,_,_,rfl,I3,zabe d s1.heap.objs.size g3,⟨_,Heap.get?_push_size _ rfl,rfl,by simp⟩,λb hb=>by
  have e:b=s1.heap.objs.size:=by simpa using hb
  subst e
  exact I2.fpOk (Nat.le_refl _) (I2.hok.fresh (Nat.le_refl _)),q o⟩
theorem zabf{d:Addr}{ob:Obj}{kvs:List (List Key × V)}{g:TG}{tb:TS}{D:Ends}{σ:St}{H:Hp}(Pv:Nat->St->Hp->Prop)(h0:Pv 0 σ H)(hl:∀ i σ H,i<=kvs.length->Pv i σ H->H d=some (.frz ob (.dT kvs)))
  (hs:∀ i b k v σ H,kvs[i]? =some (k,v)->H b=some (.tup (k.map kV))->Pv i σ H->g (.ref b) σ H λσ2 H2=>tb { D with nx:=Pv (i+1),ct:=Pv (i+1),bk:=D.nx } σ2 H2) (hd:∀ σ H,Pv kvs.length σ H->D.nx σ H):zoy (Itd d ob kvs) g tb D σ H:=by
 refine⟨λi m σ H=>m=kvs.length - i/\i<=kvs.length/\Pv i σ H,⟨_,rfl,Nat.zero_le _,h0⟩,?_⟩
 rintro i m σ H ⟨rfl,hi,p⟩
 by_cases hlt:i<kvs.length
 ·refine .inr ⟨⟨hl i σ H hi p,hlt⟩,Pv (i+1),λσ' H' p'=>⟨_,by omega,rfl,by omega,p'⟩,?_⟩
  rintro x H' ⟨rfl,b,k,v,rfl,e1,e2⟩
  exact hs i b k v σ H' e1 e2 p
 ·have e:i=kvs.length:=by omega
  subst e
  exact .inl ⟨⟨hl _ σ H hi p,hi⟩,hd σ H p⟩
theorem zvj{te:TE}{g:TG}{s1:TS}{D:Ends}{σ:St}{H:Hp}:tFor (zafo te) g s1 D σ H=(te σ H λx H1=>∃ d kvs,x=.ref d/\H1 d=some (.dT kvs)/\∀ o,zoy (Itd d o kvs) g s1 D σ (upd H1 d (.frz o (.dT kvs)))):=rfl
end L2
set_option linter.all false
set_option maxRecDepth 100000
namespace L2
open PySem PySem.Spec PyProof.Rows
section
variable{X:Cx}
end
section
variable{K:PySem.W.Frag}{tt:TT}{te:TE}{cap:List Nat}{σ:St}{H:Hp}{Q:VK}
end
end L2
set_option linter.all false
set_option maxRecDepth 100000
set_option maxHeartbeats 4000000
namespace L2
open PySem PySem.Spec PyProof.Rows
section
variable{X:Cx}{tg:Expr}
end
section
variable{K:PySem.W.Frag}{tt:TT}{cap:List Nat}{σ:St}{H:Hp}{Q:VK}
def zai6(lo:Int)(n:Nat):List Int:=(List.range n).map λ(i:Nat)=>lo - (i:Int)
end
section
variable{P:Program}{w:World}{A:Around}{E:Value->Shared->Prop}{s:Shared}
end
section
variable{X:Cx}
end
end L2
set_option linter.all false
set_option maxRecDepth 100000
set_option maxHeartbeats 4000000
namespace L2
open PySem PySem.Spec PyProof.Rows
section
variable{P:Program}{w:World}{A:Around}{E:Value->Shared->Prop}{s:Shared}
theorem zzj{e it l:Addr}{i:Nat}{items:Array Value}{x old:Value}{Q:Option Value->Shared->Prop}(he:IsEnum s.heap e it i old)(hi:s.heap.IsListIter it l i)(hl:s.heap.IsList l items)(ex:items[i]? =some x)(ne:e≠it)
  (q:∀ h',IsEnumOut h' e it (i+1) x s.heap.objs.size->h'.IsListIter it l (i+1)->h'.get? s.heap.objs.size=some { cls:=Value.type "tuple",data:=Data.seq #[Value.int i s.toks,x] }->(∀ b o,b≠e->b≠it->s.heap.get? b=some o->h'.get? b=some o) →
   Q (some (.ref s.heap.objs.size)) { s with heap:=h',toks:=s.toks+1 }):wpAny (model P w) A (pyNext (.ref e)) Q E s:=by
 have ty:s.TypeIs (.ref e) "enumerate":=⟨_,he,rfl⟩
 unfold pyNext
 exact wpAny_bind (wpAny_attempt (wpAny_callSpecial?_slot (name:=Str.ofString "__next__") ty F.slot_enumerate_next (wpAny_call_entry F.slot_enumerate_next ty F.entry_enumerate_next
  (enumerate_next_item he hi hl ex ne λh' a1 a2 a3 _ a4=>wpAny_pure (q h' a1 a2 a3 a4)) (F.args_enumerate_next_1 _))))
theorem zac3{e it l:Addr}{i:Nat}{items:Array Value}{old:Value}{Q:Fin->Shared->Prop}(hh:A.handled=none)(he:IsEnum s.heap e it i old)(hi:s.heap.IsListIter it l i)(hl:s.heap.IsList l items)(ex:items[i]? =none)
  (q:∀ h' x,Heap.ExtBut it s.heap h'->(∃ o,h'.get? x=some o/\o.cls=.type "StopIteration")->E (.ref x) { s with heap:=h' }):wpAny (model P w) A (Builtin.«enumerate.__next__» ⟨[.ref e],[]⟩) Q E s:=by
 show wpAny (model P w) A (field (.ref e) 2 >>= _) _ _ s
 refine wpAny_bind (wpAny_field he rfl (x:=.ref it) rfl ?_)
 exact wpAny_bind (zait (k:=true) hh hi hl ex q)
theorem zzk{e it l:Addr}{i:Nat}{items:Array Value}{old:Value}{Q:Option Value->Shared->Prop}(hh:A.handled=none)(he:IsEnum s.heap e it i old)(hi:s.heap.IsListIter it l i)(hl:s.heap.IsList l items)(ex:items[i]? =none)
  (q:∀ h',Heap.ExtBut it s.heap h'->Q none { s with heap:=h' }):wpAny (model P w) A (pyNext (.ref e)) Q E s:=by
 have ty:s.TypeIs (.ref e) "enumerate":=⟨_,he,rfl⟩
 unfold pyNext
 refine wpAny_bind (wpAny_attempt (wpAny_callSpecial?_slot (name:=Str.ofString "__next__") ty F.slot_enumerate_next (wpAny_call_entry F.slot_enumerate_next ty F.entry_enumerate_next (zac3 hh he hi hl ex λh' x kk ⟨o,e1,e2⟩=> ?_) (F.args_enumerate_next_1 _))))
 exact wpAny_bind (wpAny_isInstance (T:="StopIteration") (b:=true) ⟨o,e1,e2⟩ isSubtype_stop (wpAny_pure (q _ kk)))
end
def Ite(K:PySem.W.Frag)(a:Addr):It :=
  ⟨λi H=>∃ xs x,SqL K H a xs/\xs[i]? =some x,
   λi H v H'=>∃ t,H t=none/\v=.ref t/\∃ x,H'=upd H t (.tup [.int (i:Int),x])/\∀ xs,SqL K H a xs->xs[i]? =some x,
   λi H=>∃ xs,SqL K H a xs/\xs.length<=i⟩
def EnSt(e it l:Addr)(i:Nat)(h:Heap):Prop:=(∃ old,IsEnum h e it i old)/\h.IsListIter it l i
theorem EnSt.lt{e it l:Addr}{i:Nat}{h:Heap}(q:EnSt e it l i h):∀ b∈[e,it],b<h.objs.size:=by
 obtain⟨⟨old,h1⟩,o,h2,_⟩:=q
 intro b hb
 simp only[List.mem_cons,List.not_mem_nil,or_false]at hb
 rcases hb with rfl | rfl
 ·exact Heap.lt_size h1
 ·exact Heap.lt_size h2
theorem zabg {P:Program} {w:World} {K:PySem.W.Frag} {elts:List Expr} {kn:Nat} {pos:Pos} {e it l:Addr} (ne:e≠it) :
    Turn P w K (.Tuple elts kn pos) (Ite K l) [e,it] e (λi h=>EnSt e it l i h) where
  mem:=by simp
  obj:=λi h st b hb=>by
    obtain⟨⟨old,h1⟩,h2⟩:=st
    obtain⟨o4,e4,d4⟩:=ItK.ob (k:=true) h2
    simp only[List.mem_cons,List.not_mem_nil,or_false]at hb
    rcases hb with rfl | rfl
    ·exact⟨_,h1,λv q=>by cases q⟩
    ·exact⟨_,e4,λv q=>by rw[d4]at q;cases q⟩
  keep:=λi h h' ⟨⟨old,h1⟩,h2⟩ q=>⟨⟨old,q e (by simp) _ h1⟩,ItK.up (k:=true) h2 λo x=>q it (by simp) o x⟩
  item := by
    intro X hP hw hK hc i pins s σ H E I hf st hg
    subst hP hw hK
    obtain⟨xs,x,hx,ex⟩:=hg
    obtain⟨its,rv,d1⟩:=I.seqK (k:=true) hx
    obtain⟨u,hu,ru⟩:=rv.get ex
    have lt:=EnSt.lt st
    obtain⟨⟨old,h1⟩,h2⟩:=st
    refine zzj h1 h2 d1 (x:=u) (by simpa using hu) ne λh' g1 g2 g3 kk=>⟨_,rfl,?_⟩
    refine wpAny_letOwnedTupleGo_enum g1 λh2' z2 sb=> ?_
    have I1:=I.tnew (ys:=[.int (i:Int),x]) (its:=[Value.int (i:Int) s.toks,u]) (.cons (show RelV (.int (i:Int)) (Value.int (i:Int) s.toks)from⟨s.toks,rfl⟩) (.cons ru .nil)) (by show 2<=sizeLine;decide)
    have f':∀ b∈[e,it],b≠s.heap.objs.size:=λb hb=>Nat.ne_of_lt (lt b hb)
    have nz:s.heap.objs.size≠e:=(f' e (by simp)).symm
    have I2:Inv X pins σ (upd H s.heap.objs.size (.tup [.int (i:Int),x])) { s with heap:=h2',toks:=s.toks+1 }:=by
      refine Inv.turnedS (s:={ s with heap:=s.heap.push { cls:=Value.type "tuple",data:=Data.seq #[Value.int i s.toks,u] } }) (t':=s.toks+1) (fp:=[e,it]) I1 (λb o hb eo=> ?_) λb hb=>(hf b hb).upd (f' b hb)
      simp only[List.mem_cons,List.not_mem_nil,or_false,not_or]at hb
      rcases Heap.get?_push_cases eo with⟨e1,e2⟩ | e1
      · subst e1 e2
        exact sb.extBut _ _ nz g3
      ·exact sb.extBut _ _ hb.1 (kk _ _ hb.1 hb.2 e1)
    exact⟨.ref s.heap.objs.size,_,I2,rfl,⟨s.heap.objs.size,I.fresh,rfl,x,rfl,λys' q=>by rw[I.seqK_inj (k:=true) q hx];exact ex⟩,
      ⟨⟨_,z2⟩,ItK.up (k:=true) g2 λo x=>sb.extBut _ _ ne.symm x⟩,λb hb=>((hf b hb).upd (f' b hb)).1⟩
  done:=by
    intro X hP hw hK hc i pins s σ H E I hf st hg
    subst hP hw hK
    obtain⟨xs,hx,en⟩:=hg
    obtain⟨its,rv,d1⟩:=I.seqK (k:=true) hx
    obtain⟨⟨old,h1⟩,h2⟩:=st
    have e1:=rv.length
    refine zzk (I.ok.hd hc) h1 h2 d1 (by simp;omega) λh' kk=>⟨rfl,I.turnedS (t':=s.toks) (fp:=[e,it]) (λb o hb eo=> ?_) hf⟩
    simp only[List.mem_cons,List.not_mem_nil,or_false,not_or]at hb
    exact kk _ _ hb.2 eo
  self:=λ_ _ _ _ _ st h=>by
    obtain⟨⟨old,h1⟩,_⟩:=st
    exact wpAny_pyIter_enum h1 h
section
variable{X:Cx}
def zafq(K:PySem.W.Frag)(ta:TA):TI:=λσ H R=>ta σ H λvs H1=>∃ a:Addr,vs=[.ref a]/\(∃ xs,SqL K H1 a xs)/\R (Ite K a) H1
theorem zafr{a:Expr}{ta:TA}{p pos p2:Pos}{elts:List Expr}{kn:Nat}(hg:Gl X "enumerate")(hm:X.mg "enumerate"=none)(ha:PA X [a] ta)(hs:starEach [a] X.env=[(false,eval a X.env)]:=by rfl) :
  PI X (.Tuple elts kn p2) (.Call (.Name "enumerate" p) [a] [] pos) (zafq X.K ta):=by
 intro pins s σ H R I h
 refine Call_ (zus I hg hm boot_enumerate (PyProof.Rows.callWith_type1 (thn (ha pos pins s σ H _ I h) λus s1 ⟨vs,H1,I1,r1,q1⟩=> ?_) (by rw[hs];rfl) (by rfl)))
 obtain⟨l,e,⟨xs,hx⟩,q⟩:=q1
 subst e
 obtain⟨u,rfl,rx⟩:=zwq r1
 cases rx
 obtain⟨its,rv,d1⟩:=I1.seqK (k:=true) hx
 refine call_enumerate_list d1 λh' z1 z2 sz kk=>wpAny_pyIter_enum z1 ?_
 have I2:Inv X pins σ H1 { s1 with heap:=h' }:=I1.kept (t':=s1.toks) kk
 refine⟨_,[s1.heap.objs.size+1,s1.heap.objs.size],_,_,H1,rfl,I2,zabg (Nat.ne_of_gt (by omega)),⟨⟨_,z1⟩,z2⟩,λb hb=>I1.fpOk ?_ (I1.hok.fresh ?_),q⟩
 all_goals
  simp only[List.mem_cons,List.not_mem_nil,or_false]at hb
  rcases hb with rfl | rfl<;>omega
end
theorem zvk{K:PySem.W.Frag}{as:TA}{g:TG}{s1:TS}{D:Ends}{σ:St}{H:Hp}:tFor (zafq K as) g s1 D σ H=(as σ H λvs H1=>∃ a:Addr,vs=[.ref a]/\(∃ xs,SqL K H1 a xs)/\zoy (Ite K a) g s1 D σ H1):=rfl
theorem zabh{K:PySem.W.Frag}{σ:St}{H:Hp}{a:Addr}{xs:List V}{g:TG}{tb:TS}{D:Ends}(Pv:Nat->St->Hp->Prop)(h0:Pv 0 σ H)(ha:∀ i σ H,i<=xs.length->Pv i σ H->SqL K H a xs)
  (hs:∀ i x σ H t,xs[i]? =some x->Pv i σ H->H t=none->g (.ref t) σ (upd H t (.tup [.int (i:Int),x])) λσ2 H2=>tb { D with nx:=Pv (i+1),ct:=Pv (i+1),bk:=D.nx } σ2 H2) (hd:∀ σ H,Pv xs.length σ H->D.nx σ H):zoy (Ite K a) g tb D σ H:=by
 refine⟨λi m σ H=>i+m=xs.length/\Pv i σ H,⟨xs.length,by omega,h0⟩,λi m σ H ⟨e,p⟩=> ?_⟩
 have h1:=ha i σ H (by omega) p
 by_cases hi:i<xs.length
 ·refine .inr ⟨⟨xs,xs[i],h1,List.getElem?_eq_getElem hi⟩,Pv (i+1),λσ' H' q=>⟨m - 1,by omega,by omega,q⟩,λv H' ⟨t,ht,e,x,e',q1⟩=> ?_⟩
  subst e e'
  exact hs i x σ H t (q1 _ h1) p ht
 ·have e:i=xs.length:=by omega
  subst e
  exact .inl ⟨⟨xs,h1,Nat.le_refl _⟩,hd _ _ p⟩
def rInB(K:PySem.W.Frag):R2:=λx y H Q=>rInA K x y H Q\/∃ t ts p xs,x=.ref t/\SqT K H t ts/\y=.ref p/\SqT K H p xs/\(∀ z∈xs,z=.non\/∃ i,z=.int i)/\Q (.bl false) H
theorem zyk:∀ {xs:List V} {us:List Value} {u:Value},Vals xs us->u∈us->∃ x∈xs,RelV x u
  | _,_,_,.nil,h=>by cases h
  | _,_,_,.cons r t,h=>by
    rcases List.mem_cons.mp h with rfl | h
    ·exact⟨_,List.mem_cons_self ..,r⟩
    · obtain⟨x,hx,e⟩:=zyk t h
      exact⟨x,List.mem_cons_of_mem _ hx,e⟩
theorem zahx {X:Cx} (hu:X.A.units+64<cLine):OpR X (compareOp .In) (rInB X.K):=by
  intro pins s σ H x y v u Q I rx ry h
  rcases h with h | ⟨t,ts,p,xs,rfl,ht,rfl,hp,hx,q⟩
  ·exact zadq hu pins s σ H x y v u Q I rx ry h
  · cases rx
    cases ry
    obtain⟨its,r,pl,hz⟩:=I.tuple hp
    obtain⟨tts,tr,tl,_⟩:=I.tuple ht
    have hin:X.A.in1.units<cLine:=by
      have:X.A.in1.units=X.A.units+1:=rfl
      omega
    refine SeqAt.in_tupleAt (λ_=>false) pl (λz hz'=> ?_) ⟨.bl _,H,I,rfl,?_⟩
    · obtain⟨z0,h0,r0⟩:=zyk r (by simpa using hz')
      rcases hx z0 h0 with rfl | ⟨i,rfl⟩
      · cases r0
        exact SeqAt.EqAt.none_tuple tl hin
      · obtain⟨tk,rfl⟩:=r0
        exact SeqAt.EqAt.int_tuple _ _ tl hin
    · have:its.toArray.any (λ_=>false)=false:=by
        rw[Array.any_eq_false]
        simp
      rw[this]
      exact q
end L2
set_option linter.all false
namespace L2
open PySem PySem.Spec PyProof.Rows
abbrev Ad:=String->Addr
def SameBut(F:Addr->Prop)(H H':Hp):Prop:=∀ b o,H b=some o->¬ F b->H' b=some o
structure zc0(K:PySem.W.Frag)(a:Ad):Prop where
 cl:Cls K (a "Plank")
 nC:NoAttr K (a "Plank") "contents"
 nW:NoAttr K (a "Plank") "width"
 nN:NoAttr K (a "Plank") "written"
def pf(cl:Addr)(w n:Int):List (Str × V):=[("contents",.ref cl),("width",.int w),("written",.int n)]
theorem zahy:¬ ("contents":Str)="width":=by decide +kernel
theorem zafs:¬ ("contents":Str)="written":=by decide +kernel
theorem zaft:¬ ("width":Str)="written":=by decide +kernel
theorem pf_c(cl:Addr)(w n:Int):(pf cl w n).lookup ("contents":Str)=some (V.ref cl):=by simp[pf]
theorem pf_w(cl:Addr)(w n:Int):(pf cl w n).lookup ("width":Str)=some (V.int w):=by
 have h:(("width":Str) == "contents")=false:=beq_eq_false_iff_ne.mpr (Ne.symm zahy)
 simp[pf,List.lookup_cons,h]
theorem pf_n(cl:Addr)(w n:Int):(pf cl w n).lookup ("written":Str)=some (V.int n):=by
 have h:(("written":Str) == "contents")=false:=beq_eq_false_iff_ne.mpr (Ne.symm zafs)
 have h2:(("written":Str) == "width")=false:=beq_eq_false_iff_ne.mpr (Ne.symm zaft)
 simp[pf,List.lookup_cons,h,h2]
theorem zahz(cl:Addr)(w n:Int):putF "written" (.int n) (putF "width" (.int w) (putF "contents" (.ref cl) []))=pf cl w n:=by
 simp only[putF,pf]
 rw[if_neg zahy]
 simp only[putF]
 rw[if_neg zafs,if_neg zaft]
theorem zah0(cl:Addr)(w n m:Int):putF "written" (.int m) (pf cl w n)=pf cl w m:=by
 simp only[putF,pf]
 rw[if_neg zafs,if_neg zaft]
 simp
theorem zvl(cl:Addr)(w n:Int){m:Str}(h1:¬ m="contents")(h2:¬ m="width")(h3:¬ m="written"):(pf cl w n).lookup m=none:=by
 have e1:=beq_eq_false_iff_ne.mpr h1
 have e2:=beq_eq_false_iff_ne.mpr h2
 have e3:=beq_eq_false_iff_ne.mpr h3
 simp[pf,List.lookup_cons,e1,e2,e3]
structure PlankAt(a:Ad)(H:Hp)(p cl:Addr)(w:Nat)(rows:List (List V))(n:Nat):Prop where
 ob:∃ dx,H p=some (.ins (a "Plank") dx (pf cl w n))
 ls:∃ ts:List Addr,H cl=some (.lst (ts.map V.ref))/\Paired (λt r=>H t=some (.tup r)) ts rows
 wd:∀ r∈rows,r.length=w
 sz:rows.length<=1000
 sw:w<=1000
theorem PlankAt.ne{a:Ad}{H:Hp}{p cl:Addr}{w:Nat}{rows:List (List V)}{n:Nat}(P:PlankAt a H p cl w rows n):p≠cl:=by
 obtain⟨⟨dx,h1⟩,⟨ts,h2,_⟩,_⟩:=P
 exact zbe h1 h2 (by intro z;cases z)
theorem PlankAt.keep{a:Ad}{H H':Hp}{p cl:Addr}{w:Nat}{rows:List (List V)}{n:Nat}(P:PlankAt a H p cl w rows n)(h1:H' p=H p)(h2:H' cl=H cl)(h3:∀ b xs,H b=some (.tup xs)->H' b=some (.tup xs)):PlankAt a H' p cl w rows n:=by
 obtain⟨⟨dx,e1⟩,⟨ts,e2,e3⟩,r1,r2,r3⟩:=P
 exact⟨⟨dx,h1.trans e1⟩,⟨ts,h2.trans e2,Paired.mapP e3 λt r q=>h3 t r q⟩,r1,r2,r3⟩
theorem PlankAt.same{a:Ad}{H H':Hp}{p cl:Addr}{w:Nat}{rows:List (List V)}{n:Nat}(P:PlankAt a H p cl w rows n)(s:Same H H'):PlankAt a H' p cl w rows n:=by
 obtain⟨⟨dx,e1⟩,⟨ts,e2,e3⟩,r1,r2,r3⟩:=P
 exact⟨⟨dx,s _ _ e1⟩,⟨ts,s _ _ e2,Paired.mapP e3 λt r q=>s _ _ q⟩,r1,r2,r3⟩
def zc1(K:PySem.W.Frag)(a:Ad):Sp:=λvs H Q _=>∃ (p dx:Addr) (m w:Nat),vs=[.ref p,.int m,.int w]/\zc0 K a/\H p=some (.ins (a "Plank") dx [])/\m<=1000/\1<=w/\w<=1000 ∧
 ∀ cl H',H cl=none->PlankAt a H' p cl w (List.replicate m (List.replicate w .non)) 0->SameBut (· =p) H H'->Q .non H'
def za3(K:PySem.W.Frag)(a:Ad):Sp:=λvs H Q _=>∃ p cl w rows n,vs=[.ref p]/\zc0 K a/\PlankAt a H p cl w rows n/\Q (.int rows.length) H
def zbv(K:PySem.W.Frag)(a:Ad):Sp:=λvs H Q _=>∃ (p cl:Addr) (w:Nat) (rows:List (List V)) (n:Nat),vs=[.ref p]/\zc0 K a/\PlankAt a H p cl w rows n/\Q (.int w) H
def zbr(K:PySem.W.Frag)(a:Ad):Sp:=λvs H Q _=>∃ (p cl:Addr) (w:Nat) (rows:List (List V)) (n:Nat),vs=[.ref p]/\zc0 K a/\PlankAt a H p cl w rows n/\Q (.int n) H
def zao(K:PySem.W.Frag)(a:Ad):Sp:=λvs H Q E=>∃ (p cl:Addr) (w:Nat) (rows:List (List V)) (n:Nat) (b:Int),vs=[.ref p,.int b]/\zc0 K a/\PlankAt a H p cl w rows n ∧
 (0<=b->b<rows.length->Q .non H)/\(b<0\/rows.length<=b->E (.ref (a "NoBlock")) none H)
def zbm(K:PySem.W.Frag)(a:Ad):Sp:=λvs H Q E=>∃ (p cl:Addr) (w:Nat) (rows:List (List V)) (n:Nat) (b:Int),vs=[.ref p,.int b]/\zc0 K a/\PlankAt a H p cl w rows n ∧
 (∀ (i:Nat) row,b=i->rows[i]? =some row->∀ l,H l=none->Q (.ref l) (upd H l (.lst row)))/\(b<0\/rows.length<=b->E (.ref (a "NoBlock")) none H)
def zbw(K:PySem.W.Frag)(a:Ad):Sp:=λvs H Q E=>∃ (p cl:Addr) (w:Nat) (rows:List (List V)) (n:Nat) (b:Int) (v:Addr) (xs:List V),vs=[.ref p,.int b,.ref v]/\zc0 K a/\PlankAt a H p cl w rows n/\SqL K H v xs/\xs.length<=2000 ∧
 (∀ (i:Nat),b=i->i<rows.length->xs.length=w->∀ H',PlankAt a H' p cl w (rows.set i xs) (n+1)->SameBut (λx=>x=p\/x=cl) H H'->Q .non H') ∧
 (b<0\/rows.length<=b\/xs.length≠w->E (.ref (a "NoBlock")) none H)
end L2
set_option linter.all false
namespace L2
open PySem PySem.Spec PyProof.Rows
theorem zge{K:PySem.W.Frag}{H:Hp}{p:Addr}{xs:List V}{i:Int}{n:Nat}{v:V}{Q:VK}(h:H p=some (.tup xs))(hi:i=n)(hx:xs[n]? =some v)(q:Q v H):rIxA K (.ref p) (.int i) H Q :=
 .inr (.inl ⟨p,xs,i,v,rfl,rfl,SqT.of h,by rw[hi];exact zwu hx,q⟩)
theorem zyl{C C' dx dx':Addr}{fs fs':List (Str × V)}(h:fs≠fs'):HO.ins C dx fs≠HO.ins C' dx' fs':=by
 intro z
 injection z with _ _ z
 exact h z
theorem sl_l{K:PySem.W.Frag}{H:Hp}{p:Addr}{xs:List V}{lo hi:Option Int}{Q:VK}(h:SqL K H p xs)(q:∀ r,H r=none->Q (.ref r) (upd H r (.lst (cutV xs lo hi)))):rSlA K (.ref p) lo hi H Q:=.inl ⟨p,xs,rfl,h,q⟩
theorem SameBut.refl{F:Addr->Prop}(H:Hp):SameBut F H H:=λ_ _ e _=>e
theorem SameBut.trans{F:Addr->Prop}{H H' H2:Hp}(s:SameBut F H H')(t:SameBut F H' H2):SameBut F H H2:=λb o e n=>t _ _ (s _ _ e n) n
theorem SameBut.wide{F G:Addr->Prop}{H H':Hp}(s:SameBut F H H')(i:∀ x,F x->G x):SameBut G H H':=λb o e n=>s _ _ e λz=>n (i _ z)
theorem Same.sb{F:Addr->Prop}{H H':Hp}(s:Same H H'):SameBut F H H':=λb o e _=>s b o e
theorem SqL.on{K:PySem.W.Frag}{H H':Hp}{x:Addr}{xs:List V}(h:SqL K H x xs)(k:∀ o,H x=some o->H' x=some o):SqL K H' x xs:=by
 rcases h with(h | ⟨o,h⟩) | h
 ·exact .inl (.inl (k _ h))
 ·exact .inl (.inr ⟨o,k _ h⟩)
 ·exact .inr h
theorem SqL.sb{K:PySem.W.Frag}{F:Addr->Prop}{H H':Hp}{x:Addr}{xs:List V}(h:SqL K H x xs)(s:SameBut F H H')(f:∀ o,H x=some o->¬ F x):SqL K H' x xs:=by
 rcases h with(h | ⟨o,h⟩) | h
 ·exact .inl (.inl (s _ _ h (f _ h)))
 ·exact .inl (.inr ⟨o,s _ _ h (f _ h)⟩)
 ·exact .inr h
theorem SameBut.upd{F:Addr->Prop}{H H':Hp}{p:Addr}{o:HO}(s:SameBut F H H')(h:F p\/H p=none):SameBut F H (upd H' p o):=λb u e n=>by
 have:b≠p:=by
  rcases h with h | h
  ·exact λz=>n (z ▸ h)
  ·exact zai e h
 rw[zag this];exact s _ _ e n
structure Ch where
 blk:Nat
 cell:Nat
 val:V
 nd:List Int
def zig:List Ch->Int->Int->Option Nat
 | [],_,_=>none
 | c::r,i,j=>if(c.blk:Int)=i/\(c.cell:Int)=j then some r.length else zig r i j
def zb4(cs:List Ch)(i j:Int):Option Nat:=zig cs.reverse i j
def ziv:List Ch->Nat->List Nat
 | [],_=>[]
 | c::r,b=>if c.blk=b then ziv r b++[r.length]else ziv r b
def zd5(cs:List Ch)(b:Nat):List Nat:=ziv cs.reverse b
theorem zl2(cs:List Ch)(c:Ch)(i j:Int):zb4 (cs++[c]) i j=if(c.blk:Int)=i/\(c.cell:Int)=j then some cs.length else zb4 cs i j:=by
 simp[zb4,zig]
theorem zzl(cs:List Ch)(c:Ch)(b:Nat):zd5 (cs++[c]) b=if c.blk=b then zd5 cs b++[cs.length]else zd5 cs b:=by
 simp[zd5,ziv]
theorem zjy:∀ {l:List Ch} {i j:Int} {k:Nat},zig l i j=some k->k<l.length
  | [],_,_,_,h=>by cases h
  | c :: r,i,j,k,h=>by
    unfold zig at h
    split at h
    ·cases h;simp
    · have:=zjy h
      simp only[List.length_cons];omega
theorem zhd{cs:List Ch}{i j:Int}{k:Nat}(h:zb4 cs i j=some k):k<cs.length:=by
 have:=zjy h
 rwa [List.length_reverse]at this
theorem zqr:∀ {l:List Ch} {b k:Nat},k∈ziv l b->k<l.length
  | [],_,_,h=>by cases h
  | c :: r,b,k,h=>by
    unfold ziv at h
    split at h
    · rcases List.mem_append.mp h with h | h
      · have:=zqr h
        simp only[List.length_cons];omega
      ·rw[List.mem_singleton.mp h];simp
    · have:=zqr h
      simp only[List.length_cons];omega
theorem zqa{cs:List Ch}{b k:Nat}(h:k∈zd5 cs b):k<cs.length:=by
 have:=zqr h
 rwa [List.length_reverse]at this
theorem zta:∀ (l:List Ch) (b:Nat),(ziv l b).length<=l.length
  | [],_=>Nat.le_refl _
  | c::r,b=>by
    have:=zta r b
    unfold ziv
    split<;>simp<;>omega
theorem zvm(cs:List Ch)(b:Nat):(zd5 cs b).length<=cs.length:=by
 have:=zta cs.reverse b
 rwa [List.length_reverse]at this
def chf(pl:Addr)(v:V)(nt:Addr):List (Str × V):=[("place",.ref pl),("value",v),("needs",.ref nt)]
def bf(gp m mi lt ou:Addr):List (Str × V):=[("ground",.ref gp),("made",.ref m),("made_in",.ref mi),("latest",.ref lt),("outs",.ref ou)]
def zoz(a b:Str):Bool:=a == b
section
variable{pl nt gp m mi lt ou:Addr}{v:V}
theorem s_ne{a b:Str}(h:zoz a b=false):(a == b)=false:=h
theorem zaix:(chf pl v nt).lookup ("place":Str)=some (V.ref pl):=by simp[chf]
theorem zah1:(chf pl v nt).lookup ("value":Str)=some v:=by
 simp[chf,List.lookup_cons,s_ne (a:="value") (b:="place") (by decide +kernel)]
theorem zaiy:(chf pl v nt).lookup ("needs":Str)=some (V.ref nt):=by
 simp[chf,List.lookup_cons,s_ne (a:="needs") (b:="place") (by decide +kernel),s_ne (a:="needs") (b:="value") (by decide +kernel)]
theorem zqs{f g:Str}{x y:V}{r:List (Str × V)}(h:zoz g f=false):putF f y ((g,x)::r)=(g,x)::putF f y r:=by
 have:¬ g=f:=λe=>by rw[e]at h;simp[zoz]at h
 simp[putF,this]
theorem zl3{f:Str}{y:V}:putF f y []=[(f,y)]:=rfl
theorem zafu:putF "needs" (.ref nt) (putF "value" v (putF "place" (.ref pl) []))=chf pl v nt:=by
 rw[zl3,zqs (by decide +kernel),zl3,zqs (by decide +kernel),zqs (by decide +kernel),zl3]
 rfl
theorem bf_g:(bf gp m mi lt ou).lookup ("ground":Str)=some (V.ref gp):=by simp[bf]
theorem bf_m:(bf gp m mi lt ou).lookup ("made":Str)=some (V.ref m):=by
 simp[bf,List.lookup_cons,s_ne (a:="made") (b:="ground") (by decide +kernel)]
theorem bf_i:(bf gp m mi lt ou).lookup ("made_in":Str)=some (V.ref mi):=by
 simp[bf,List.lookup_cons,s_ne (a:="made_in") (b:="ground") (by decide +kernel),s_ne (a:="made_in") (b:="made") (by decide +kernel)]
theorem bf_l:(bf gp m mi lt ou).lookup ("latest":Str)=some (V.ref lt):=by
 simp[bf,List.lookup_cons,s_ne (a:="latest") (b:="ground") (by decide +kernel),s_ne (a:="latest") (b:="made") (by decide +kernel),s_ne (a:="latest") (b:="made_in") (by decide +kernel)]
theorem bf_o:(bf gp m mi lt ou).lookup ("outs":Str)=some (V.ref ou):=by
 simp[bf,List.lookup_cons,s_ne (a:="outs") (b:="ground") (by decide +kernel),s_ne (a:="outs") (b:="made") (by decide +kernel),s_ne (a:="outs") (b:="made_in") (by decide +kernel),s_ne (a:="outs") (b:="latest") (by decide +kernel)]
theorem zo0{x:Str}(h:(zoz x "ground" || zoz x "made" || zoz x "made_in" || zoz x "latest" || zoz x "outs")=false):(bf gp m mi lt ou).lookup x=none:=by
 simp only[Bool.or_eq_false_iff]at h
 obtain⟨⟨⟨⟨h1,h2⟩,h3⟩,h4⟩,h5⟩:=h
 simp[bf,List.lookup_cons,s_ne h1,s_ne h2,s_ne h3,s_ne h4,s_ne h5]
theorem zah2:putF "outs" (.ref ou) (putF "latest" (.ref lt) (putF "made_in" (.ref mi) (putF "made" (.ref m) (putF "ground" (.ref gp) []))))=bf gp m mi lt ou:=by
 repeat (first | rw[zl3] | rw[zqs (by decide +kernel)])
 rfl
end
structure zah3(K:PySem.W.Frag)(C D:Addr):Prop where
 cl:Cls K C
 nG:NoAttr K C "ground"
 nM:NoAttr K C "made"
 nI:NoAttr K C "made_in"
 nL:NoAttr K C "latest"
 nO:NoAttr K C "outs"
 cc:Cls K D
 nP:NoAttr K D "place"
 nV:NoAttr K D "value"
 nN:NoAttr K D "needs"
def ChAt(D:Addr)(H:Hp)(x:Addr)(c:Ch):Prop:=∃ dx pl nt,H x=some (.ins D dx (chf pl c.val nt))/\H pl=some (.tup [.int c.blk,.int c.cell])/\H nt=some (.tup (c.nd.map V.int))
structure BA where
 b:Addr
 gp:Addr
 m:Addr
 mi:Addr
 lt:Addr
 ou:Addr
 ls:List Addr
 cl:Addr
def BA.F(A:BA)(x:Addr):Prop:=x=A.m\/x=A.mi\/x∈A.ls\/x=A.lt\/x=A.ou\/x=A.cl
def KeysOk(kvo:List (Key × V))(n:Nat):Prop:=(kvo.map (·.1)).Nodup/\∀ p∈kvo,∃ x:Nat,p.1=Sum.inl (x:Int)/\x<n
theorem KeysOk.mono{kvo:List (Key × V)}{n m:Nat}(h:KeysOk kvo n)(hm:n<=m):KeysOk kvo m:=⟨h.1,λp hp=>by obtain⟨x,e,hx⟩:=h.2 p hp;exact⟨x,e,by omega⟩⟩
theorem KeysOk.len{kvo:List (Key × V)}{n:Nat}(h:KeysOk kvo n):kvo.length<=n:=by
 have:=List.Nodup.length_le_of_subset (l₂:=(List.range n).map λ(k:Nat)=>(Sum.inl (k:Int):Key)) h.1 λk hk=>by
  obtain⟨p,hp,rfl⟩:=List.mem_map.mp hk
  obtain⟨x,e,hx⟩:=h.2 p hp
  rw[e]
  exact List.mem_map.mpr ⟨x,List.mem_range.mpr hx,rfl⟩
 simpa using this
theorem KeysOk.put{kvo:List (Key × V)}{n:Nat}(h:KeysOk kvo n){k:Nat}(hk:k<n)(hn:valV kvo (.inl (k:Int))=none)(v:V):KeysOk (putK kvo (.inl (k:Int)) v) n:=by
 refine⟨zaef v h.1 hn,λp hp=> ?_⟩
 rw[zx5 v hn]at hp
 rcases List.mem_append.mp hp with hp | hp
 ·exact h.2 p hp
 ·rw[List.mem_singleton.mp hp];exact⟨k,rfl,hk⟩
structure BookIn(C D:Addr)(H:Hp)(A:BA)(w:Nat)(cs:List Ch)(outs:Int->Bool):Prop where
 ob:∃ dx,H A.b=some (.ins C dx (bf A.gp A.m A.mi A.lt A.ou))
 made:∃ chs:List Addr,H A.m=some (.lst (chs.map V.ref))/\Paired (ChAt D H) chs cs
 mil:H A.mi=some (.lst (A.ls.map V.ref))
 mic:∀ (i:Nat) l,A.ls[i]? =some l->H l=some (.lst ((zd5 cs i).map λ(k:Nat)=>V.int k))
 nd:A.ls.Nodup
 lat:∃ kvs,H A.lt=some (.dT kvs)/\(∀ i j:Int,valV kvs [.inl i,.inl j]=(zb4 cs i j).map λ(k:Nat)=>V.int k)/\kvs.length<=cs.length
 out:∃ kvo,H A.ou=some (.dK kvo)/\(∀ k:Int,(valV kvo (.inl k)).isSome=outs k)/\KeysOk kvo cs.length
 sz:cs.length<=500
 inn:∀ c∈cs,c.blk<A.ls.length/\c.cell<w
 need:∀ (k:Nat) c,cs[k]? =some c->(∀ x∈c.nd,0<=x/\x<k)/\c.nd.Pairwise (· <·)/\c.nd.length<=100
 ap:A.m≠A.mi/\A.m∉A.ls/\A.mi∉A.ls/\A.cl≠A.m/\A.cl≠A.mi/\A.cl∉A.ls
 chn:∀ (k:Nat) c,cs[k]? =some c->∀ j,zb4 (cs.take k) c.blk c.cell=some j->(j:Int)∈c.nd
structure BookAt(a:Ad)(C:Addr)(H:Hp)(A:BA)(w:Nat)(rows:List (List V))(n:Nat)(cs:List Ch)(outs:Int->Bool):Prop where
 bk:BookIn C (a "Change") H A w cs outs
 pk:PlankAt a H A.gp A.cl w rows n
 nb:A.ls.length=rows.length
def zih(o:Option HO):Prop:=(∀ xs,o≠some (.tup xs))/\∀ C dx fs,o≠some (.ins C dx fs)
theorem ChAt.sb{D:Addr}{G:Addr->Prop}{H H':Hp}(s:SameBut G H H')(g:∀ x,G x->zih (H x)){x:Addr}{c:Ch}(h:ChAt D H x c):ChAt D H' x c:=by
 obtain⟨dx,pl,nt,e1,e2,e3⟩:=h
 exact⟨dx,pl,nt,s _ _ e1 λz=>(g _ z).2 _ _ _ e1,s _ _ e2 λz=>(g _ z).1 _ e2,s _ _ e3 λz=>(g _ z).1 _ e3⟩
theorem BookIn.sb{C D:Addr}{G:Addr->Prop}{H H':Hp}{A:BA}{w:Nat}{cs:List Ch}{outs:Int->Bool}(B:BookIn C D H A w cs outs)(s:SameBut G H H')(g:∀ x,G x->zih (H x))(f:∀ x,G x->¬ A.F x):BookIn C D H' A w cs outs:=by
 obtain⟨⟨dx,e1⟩,⟨chs,e2,e3⟩,e4,e5,e6,⟨kvs,e7,e8⟩,⟨kvo,e9,e10⟩,r1,r2,r3,r4,r5⟩:=B
 refine⟨⟨dx,s _ _ e1 λz=>(g _ z).2 _ _ _ e1⟩,⟨chs,s _ _ e2 λz=>f _ z (.inl rfl),Paired.mapP e3 λx c h=>h.sb s g⟩,s _ _ e4 λz=>f _ z (.inr (.inl rfl)),λi l h=>s _ _ (e5 i l h) λz=>f _ z (.inr (.inr (.inl (List.mem_of_getElem? h)))),e6,
  ⟨kvs,s _ _ e7 λz=>f _ z (.inr (.inr (.inr (.inl rfl)))),e8⟩,⟨kvo,s _ _ e9 λz=>f _ z (.inr (.inr (.inr (.inr (.inl rfl))))),e10⟩,r1,r2,r3,r4,r5⟩
theorem PlankAt.sbL{a:Ad}{G:Addr->Prop}{H H':Hp}{p cl:Addr}{w:Nat}{rows:List (List V)}{n:Nat}(P:PlankAt a H p cl w rows n)(s:SameBut G H H')(g:∀ x,G x->zih (H x))(h:¬ G cl):PlankAt a H' p cl w rows n:=by
 obtain⟨⟨dx,e1⟩,⟨ts,e2,e3⟩,r1,r2,r3⟩:=P
 exact⟨⟨dx,s _ _ e1 λz=>(g _ z).2 _ _ _ e1⟩,⟨ts,s _ _ e2 h,Paired.mapP e3 λt r q=>s _ _ q λz=>(g _ z).1 _ q⟩,r1,r2,r3⟩
theorem BookAt.sb{a:Ad}{C:Addr}{G:Addr->Prop}{H H':Hp}{A:BA}{w:Nat}{rows:List (List V)}{n:Nat}{cs:List Ch}{outs:Int->Bool}(B:BookAt a C H A w rows n cs outs)(s:SameBut G H H')(g:∀ x,G x->zih (H x))(f:∀ x,G x->¬ A.F x):BookAt a C H' A w rows n cs outs :=
 ⟨B.bk.sb s g f,B.pk.sbL s g λz=>f _ z (.inr (.inr (.inr (.inr (.inr rfl))))),B.nb⟩
theorem BookAt.same{a:Ad}{C:Addr}{H H':Hp}{A:BA}{w:Nat}{rows:List (List V)}{n:Nat}{cs:List Ch}{outs:Int->Bool}(B:BookAt a C H A w rows n cs outs)(s:Same H H'):BookAt a C H' A w rows n cs outs :=
 B.sb (G:=λ_=>False) (Same.sb s) (λ_ z=>z.elim) λ_ z=>z.elim
theorem BookAt.off{a:Ad}{C:Addr}{H:Hp}{A:BA}{w:Nat}{rows:List (List V)}{n:Nat}{cs:List Ch}{outs:Int->Bool}(B:BookAt a C H A w rows n cs outs){x:Addr}(h:H x=none):¬ A.F x:=by
 obtain⟨⟨_,⟨chs,e2,_⟩,e4,e5,_,⟨kvs,e7,_⟩,⟨kvo,e9,_⟩,_⟩,⟨_,⟨ts,e11,_⟩,_⟩,_⟩:=B
 rintro (z | z | z | z | z | z)
 ·rw[z,e2]at h;cases h
 ·rw[z,e4]at h;cases h
 ·obtain⟨i,hi,e⟩:=List.getElem_of_mem z
  have:=e5 i x (by rw[<-e];exact List.getElem?_eq_getElem hi)
  rw[this]at h;cases h
 ·rw[z,e7]at h;cases h
 ·rw[z,e9]at h;cases h
 ·rw[z,e11]at h;cases h
theorem ztb{α :Type}{l:List α}{x: α}(h:x∈l):∃ i:Nat,l[i]? =some x:=by
 obtain⟨i,hi,e⟩:=List.getElem_of_mem h
 exact⟨i,by rw[<-e];exact List.getElem?_eq_getElem hi⟩
theorem zkl{H:Hp}{x:Addr}{xs:List V}(h:H x=some (.lst xs)):zih (H x):=by
 rw[h];exact⟨λ_ z=>(by cases z),λ_ _ _ z=>(by cases z)⟩
theorem zxg{H:Hp}{x:Addr}{xs:List (Key × V)}(h:H x=some (.dK xs)):zih (H x):=by
 rw[h];exact⟨λ_ z=>(by cases z),λ_ _ _ z=>(by cases z)⟩
theorem zqt{H:Hp}{x:Addr}{xs:List (List Key × V)}(h:H x=some (.dT xs)):zih (H x):=by
 rw[h];exact⟨λ_ z=>(by cases z),λ_ _ _ z=>(by cases z)⟩
theorem BookAt.loose{a:Ad}{C:Addr}{H:Hp}{A:BA}{w:Nat}{rows:List (List V)}{n:Nat}{cs:List Ch}{outs:Int->Bool}(B:BookAt a C H A w rows n cs outs){x:Addr}(h:A.F x):zih (H x):=by
 obtain⟨⟨_,⟨chs,e2,_⟩,e4,e5,_,⟨kvs,e7,_⟩,⟨kvo,e9,_⟩,_⟩,⟨_,⟨ts,e11,_⟩,_⟩,_⟩:=B
 rcases h with z | z | z | z | z | z
 ·exact zkl (z ▸ e2)
 ·exact zkl (z ▸ e4)
 ·obtain⟨i,e⟩:=ztb z
  exact zkl (e5 i x e)
 ·exact zqt (z ▸ e7)
 ·exact zxg (z ▸ e9)
 ·exact zkl (z ▸ e11)
structure CloR(cs:List Ch)(outs:Int->Bool)(ns:List Int)(R:Int->Bool):Prop where
 all:∀ x∈ns,R x=true
 up:∀ (k:Nat) (c:Ch),cs[k]? =some c->outs k=false->R k=true->∀ y∈c.nd,R y=true
 only:∀ x,R x=true->x∈ns\/∃ (k:Nat) (c:Ch),cs[k]? =some c/\outs k=false/\R k=true/\x∈c.nd
end L2
set_option linter.all false
namespace L2
open PySem PySem.Spec PyProof.Rows
def zor(nd:List Int)(there:Int->Bool):Option Int:=nd.find? λx=> !there x
theorem zabi{nd:List Int}{there:Int->Bool}(h:∀ x∈nd,there x=true):zor nd there=none:=List.find?_eq_none.mpr λx hx=>by rw[h x hx];exact Bool.false_ne_true
structure Pass where
 out:List Nat
 held:List (Nat × Int)
 gone:Int->Bool
def zeb (cs:List Ch) (outs:Int->Bool) (s:Pass) (k:Nat):Pass :=
  if outs k || s.gone k then s else
    match (cs[k]?).bind λc=>zor c.nd λx=>outs x || s.gone x with
    | none=>⟨s.out++[k],s.held,λx=>s.gone x || x ==(k:Int)⟩
    | some l=>⟨s.out,s.held++[(k,l)],s.gone⟩
def outcome(cs:List Ch)(outs taken:Int->Bool)(b:Nat):Pass:=(zd5 cs b).foldl (zeb cs outs) ⟨[],[],taken⟩
def zg1 (cs:List Ch) (outs:Int->Bool) (r:List V) (k:Nat):List V :=
  if outs k then match cs[k]? with
    | some c=>r.set c.cell c.val
    | none=>r
  else r
def zf4(cs:List Ch)(outs:Int->Bool)(b:Nat)(row:List V):List V:=(zd5 cs b).foldl (zg1 cs outs) row
def zix(cs:List Ch)(outs:Int->Bool)(b:Nat):Int->Bool:=λx=>outs x || (outcome cs outs (λ_=>false) b).out.any λ(k:Nat)=>x ==(k:Int)
theorem zqu{cs:List Ch}{outs:Int->Bool}(r:List V)(k:Nat):(zg1 cs outs r k).length=r.length:=by
 unfold zg1
 split
 ·split
  ·rw[List.length_set]
  ·rfl
 ·rfl
theorem zkm{cs:List Ch}{outs:Int->Bool}:∀ (l:List Nat) (r:List V),(l.foldl (zg1 cs outs) r).length=r.length
 | [],r=>rfl
 | k::l,r=>by rw[List.foldl_cons,zkm l,zqu]
theorem zhe{cs:List Ch}{outs:Int->Bool}{b:Nat}{row:List V}:(zf4 cs outs b row).length=row.length:=zkm _ _
theorem zym{cs:List Ch}{outs:Int->Bool}:∀ (l:List Nat) (s:Pass),(l.foldl (zeb cs outs) s).out.length+(l.foldl (zeb cs outs) s).held.length<=s.out.length+s.held.length+l.length
  | [],s=>by simp
  | k :: l,s=>by
    rw[List.foldl_cons]
    have h:=zym (cs:=cs) (outs:=outs) l (zeb cs outs s k)
    have h2:(zeb cs outs s k).out.length+(zeb cs outs s k).held.length<=s.out.length+s.held.length+1:=by
      unfold zeb
      split
      ·omega
      ·split<;>simp<;>omega
    simp only[List.length_cons]
    omega
theorem zjd{α β :Type}(f: β -> α -> β)(b: β){l:List α}{i:Nat}{x: α}(h:l[i]? =some x):(l.take (i+1)).foldl f b=f ((l.take i).foldl f b) x:=by
 obtain⟨hi,e⟩:=List.getElem?_eq_some_iff.mp h
 rw[<-e,<-List.take_append_getElem hi,List.foldl_append]
 rfl
theorem zvn(b:Nat):∀ l:List Ch,ziv l b=(List.range l.length).filter λ(k:Nat)=>(l.reverse[k]?).any λc=>c.blk == b
  | []=>rfl
  | c :: r=>by
    have ih:=zvn b r
    have e:(List.range r.length).filter (λ(k:Nat)=>((c::r).reverse[k]?).any λc=>c.blk == b)=ziv r b:=by
      rw[ih]
      refine List.filter_congr λk hk=> ?_
      rw[List.reverse_cons,List.getElem?_append_left (by rw[List.length_reverse];exact List.mem_range.mp hk)]
    have e2:(c::r).reverse[r.length]? =some c:=by
      rw[List.reverse_cons,List.getElem?_append_right (by rw[List.length_reverse];exact Nat.le_refl _)]
      simp
    rw[List.length_cons,List.range_succ,List.filter_append,e]
    show(if c.blk=b then ziv r b++[r.length]else ziv r b)=_
    by_cases h:c.blk=b
    · rw[if_pos h]
      simp[e2,h]
    · rw[if_neg h]
      simp[e2,h]
theorem zyn(cs:List Ch)(b:Nat):zd5 cs b=(List.range cs.length).filter λ(k:Nat)=>(cs[k]?).any λc=>c.blk == b:=by
 have:=zvn b cs.reverse
 rw[List.reverse_reverse,List.length_reverse]at this
 exact this
theorem zm2(cs:List Ch)(b:Nat):(zd5 cs b).Pairwise (· <·):=by
 rw[zyn]
 exact List.pairwise_lt_range.filter _
theorem mem_inBlk{cs:List Ch}{b k:Nat}:k∈zd5 cs b↔∃ c,cs[k]? =some c/\c.blk=b:=by
 rw[zyn,List.mem_filter,List.mem_range]
 constructor
 ·rintro ⟨h,h2⟩
  rw[List.getElem?_eq_getElem h]at h2 ⊢
  exact⟨_,rfl,by simpa using h2⟩
 ·rintro ⟨c,e,rfl⟩
  exact⟨(List.getElem?_eq_some_iff.mp e).1,by rw[e];simp⟩
theorem zvo{cs:List Ch}{outs:Int->Bool}(s:Pass)(k:Nat):zeb cs outs s k=s\/(outs k=false/\zeb cs outs s k=⟨s.out++[k],s.held,λx=>s.gone x || x ==(k:Int)⟩)\/∃ l,zeb cs outs s k=⟨s.out,s.held++[(k,l)],s.gone⟩:=by
 unfold zeb
 split
 ·exact .inl rfl
 ·rename_i hc
  simp only[Bool.or_eq_true,not_or,Bool.not_eq_true]at hc
  split
  ·exact .inr (.inl ⟨hc.1,rfl⟩)
  ·exact .inr (.inr ⟨_,rfl⟩)
theorem zads {cs:List Ch} {outs:Int->Bool}:∀ (l:List Nat) (s:Pass),∃ l',(l.foldl (zeb cs outs) s).out=s.out++l'/\l'.Sublist l/\(∀ k∈l',outs k=false)/\∀ x,(l.foldl (zeb cs outs) s).gone x=(s.gone x || l'.any λ(k:Nat)=>x ==(k:Int))
  | [],s=>⟨[],by simp,.slnil,by simp,by simp⟩
  | k :: l,s=>by
    rw[List.foldl_cons]
    obtain⟨l',h1,h2,h3,h4⟩:=zads (cs:=cs) (outs:=outs) l (zeb cs outs s k)
    rcases zvo (cs:=cs) (outs:=outs) s k with e | ⟨ho,e⟩ | ⟨l0,e⟩
    · rw[e]at h1 h4 ⊢
      exact⟨l',h1,h2.cons _,h3,h4⟩
    · rw[e]at h1 h4 ⊢
      refine⟨k::l',by rw[h1];simp,h2.cons_cons _,λx hx=> ?_,λx=> ?_⟩
      · rcases List.mem_cons.mp hx with rfl | hx
        ·exact ho
        ·exact h3 x hx
      ·rw[h4,List.any_cons,Bool.or_assoc]
    · rw[e]at h1 h4 ⊢
      exact⟨l',h1,h2.cons _,h3,h4⟩
theorem zkn{cs:List Ch}{outs:Int->Bool}{b:Nat}:(outcome cs outs (λ_=>false) b).out.Pairwise (· <·)/\(∀ k∈(outcome cs outs (λ_=>false) b).out,outs k=false/\k∈zd5 cs b)/\∀ x,(outcome cs outs (λ_=>false) b).gone x=(outcome cs outs (λ_=>false) b).out.any λ(k:Nat)=>x ==(k:Int):=by
 obtain⟨l',h1,h2,h3,h4⟩:=zads (cs:=cs) (outs:=outs) (zd5 cs b) ⟨[],[],λ_=>false⟩
 have e:(outcome cs outs (λ_=>false) b).out=l':=by unfold outcome;rw[h1];rfl
 rw[e]
 exact⟨(zm2 cs b).sublist h2,λk hk=>⟨h3 k hk,h2.subset hk⟩,λx=>by unfold outcome;rw[h4];simp⟩
def ToldAt(H:Hp)(t ol hl:Addr)(out:List Nat)(held:List (Nat × Int)):Prop:=H t=some (.tup [.ref ol,.ref hl])/\H ol=some (.lst (out.map λ(k:Nat)=>V.int k))/\∃ hs:List Addr,H hl=some (.lst (hs.map V.ref))/\Paired (λx (p:Nat × Int)=>H x=some (.tup [.int p.1,.int p.2])) hs held
theorem ToldAt.same{H H':Hp}{t ol hl:Addr}{out:List Nat}{held:List (Nat × Int)}(h:ToldAt H t ol hl out held)(s:Same H H'):ToldAt H' t ol hl out held:=by
 obtain⟨h1,h2,hs,h3,h4⟩:=h
 exact⟨s _ _ h1,s _ _ h2,hs,s _ _ h3,Paired.mapP h4 λx p e=>s _ _ e⟩
theorem ToldAt.sb{F:Addr->Prop}{H H':Hp}{t ol hl:Addr}{out:List Nat}{held:List (Nat × Int)}(h:ToldAt H t ol hl out held)(s:SameBut F H H')(n:∀ x,F x->∀ xs,H x≠some (.tup xs))(n1:¬ F ol)(n2:¬ F hl):ToldAt H' t ol hl out held:=by
 obtain⟨h1,h2,hs,h3,h4⟩:=h
 exact⟨s _ _ h1 λz=>n _ z _ h1,s _ _ h2 n1,hs,s _ _ h3 n2,Paired.mapP h4 λx p e=>s _ _ e λz=>n _ z _ e⟩
def zqb(cs:List Ch)(r:List V)(k:Nat):List V:=match cs[k]? with
 | some c=>r.set c.cell c.val
 | none=>r
def zqc(cs:List Ch)(ks:List Nat)(row:List V):List V:=ks.foldl (zqb cs) row
theorem zzm(cs:List Ch)(O:Int->Bool)(b:Nat)(row:List V):zf4 cs O b row=zqc cs ((zd5 cs b).filter λ(k:Nat)=>O k) row:=by
 unfold zf4 zqc
 rw[List.foldl_filter]
 rfl
def zje (cs:List Ch):List Nat->Nat->Option Ch
  | [],_=>none
  | k::r,j=>match zje cs r j with
    | some c=>some c
    | none=>(cs[k]?).filter λc=>c.cell == j
theorem zko(cs:List Ch)(k:Nat)(r:List Nat)(j:Nat):zje cs (k::r) j=match zje cs r j with
  | some c=>some c
  | none=>(cs[k]?).filter λc=>c.cell == j:=rfl
theorem zyo (cs:List Ch) (j:Nat):∀ (ks:List Nat) (row:List V),(zqc cs ks row)[j]? =(row[j]?).map λv=>((zje cs ks j).map (·.val)).getD v
  | [],row=>by
    show row[j]? =_
    cases row[j]? <;>rfl
  | k :: r,row=>by
    show(zqc cs r (zqb cs row k))[j]? =_
    rw[zyo cs j r,zko]
    cases h:zje cs r j with
    | some c =>
      unfold zqb
      cases e:cs[k]? with
      | none=>rfl
      | some c0 =>
        dsimp only
        rw[List.getElem?_set]
        by_cases hj:c0.cell=j
        · subst hj
          rw[if_pos rfl]
          by_cases hl:c0.cell<row.length
          ·rw[if_pos hl,List.getElem?_eq_getElem hl];rfl
          ·rw[if_neg hl,List.getElem?_eq_none (by omega)]
        ·rw[if_neg hj]
    | none =>
      unfold zqb
      cases e:cs[k]? with
      | none=>rfl
      | some c0 =>
        dsimp only
        rw[List.getElem?_set]
        by_cases hj:c0.cell=j
        · subst hj
          rw[if_pos rfl]
          by_cases hl:c0.cell<row.length
          ·rw[if_pos hl,List.getElem?_eq_getElem hl];simp[Option.filter]
          ·rw[if_neg hl,List.getElem?_eq_none (by omega)];rfl
        · rw[if_neg hj]
          have:(Option.filter (λ(c:Ch)=>c.cell == j) (some c0))=none:=by simp[Option.filter,hj]
          rw[this]
theorem lastAt_some {cs:List Ch} {j:Nat} {c:Ch}:∀ {ks:List Nat},zje cs ks j=some c->∃ k∈ks,cs[k]? =some c/\c.cell=j/\(ks.Pairwise (· <·)->∀ k'∈ks,k<k'->∀ c',cs[k']? =some c'->c'.cell≠j)
  | [],h=>by cases h
  | k :: r,h=>by
    rw[zko]at h
    cases e:zje cs r j with
    | some c1 =>
      rw[e]at h
      cases h
      obtain⟨k1,h1,h2,h3,h4⟩:=lastAt_some e
      refine⟨k1,List.mem_cons_of_mem _ h1,h2,h3,λhp k' hk' hlt c' ec=> ?_⟩
      obtain⟨p1,p2⟩:=List.pairwise_cons.mp hp
      rcases List.mem_cons.mp hk' with rfl | hk'
      ·have:=p1 k1 h1;omega
      ·exact h4 p2 k' hk' hlt c' ec
    | none =>
      rw[e]at h
      dsimp only at h
      cases ec:cs[k]? with
      | none=>rw[ec]at h;cases h
      | some c0 =>
        rw[ec]at h
        have hc:c0.cell=j/\c0=c:=by
          simp only[Option.filter]at h
          split at h
          ·rename_i hh;cases h;exact⟨by simpa using hh,rfl⟩
          ·cases h
        obtain⟨hc,rfl⟩:=hc
        refine⟨k,List.mem_cons_self ..,ec,hc,λhp k' hk' hlt c' ec'=> ?_⟩
        rcases List.mem_cons.mp hk' with rfl | hk'
        ·omega
        ·exact lastAt_no e k' hk' c' ec'
where
  lastAt_no {cs:List Ch} {j:Nat}:∀ {ks:List Nat},zje cs ks j=none->∀ k∈ks,∀ c,cs[k]? =some c->c.cell≠j
    | [],_,k,hk=>by cases hk
    | k0 :: r,h,k,hk=>λc ec hj=>by
      rw[zko]at h
      cases e:zje cs r j with
      | some c1=>rw[e]at h;cases h
      | none =>
        rw[e]at h
        rcases List.mem_cons.mp hk with rfl | hk
        · rw[ec]at h
          simp[Option.filter,hj]at h
        ·exact lastAt_no e k hk c ec hj
theorem ztc {i j:Int}:∀ {l:List Ch} {k:Nat} {c:Ch},l.reverse[k]? =some c->(c.blk:Int)=i->(c.cell:Int)=j->∃ j0 c0,zig l i j=some j0/\k<=j0/\l.reverse[j0]? =some c0/\(c0.blk:Int)=i/\(c0.cell:Int)=j
  | [],k,c,h,_,_=>by simp at h
  | c1 :: r,k,c,h,h1,h2=>by
    have hk:=(List.getElem?_eq_some_iff.mp h).1
    rw[List.length_reverse,List.length_cons]at hk
    unfold zig
    by_cases hp:(c1.blk:Int)=i/\(c1.cell:Int)=j
    · rw[if_pos hp]
      refine⟨r.length,c1,rfl,by omega,?_,hp⟩
      rw[List.reverse_cons,List.getElem?_append_right (by rw[List.length_reverse];exact Nat.le_refl _)]
      simp
    · rw [if_neg hp]
      have hlt:k<r.length:=by
        rcases Nat.lt_or_ge k r.length with z | z
        ·exact z
        · exfalso
          have:k=r.length:=by omega
          subst this
          rw[List.reverse_cons,List.getElem?_append_right (by rw[List.length_reverse];exact Nat.le_refl _)]at h
          simp at h
          subst h
          exact hp ⟨h1,h2⟩
      rw[List.reverse_cons,List.getElem?_append_left (by rw[List.length_reverse];exact hlt)]at h
      obtain⟨j0,c0,e1,e2,e3,e4⟩:=ztc h h1 h2
      refine⟨j0,c0,e1,e2,?_,e4⟩
      have:=zjy e1
      rw[List.reverse_cons,List.getElem?_append_left (by rw[List.length_reverse];exact this)]
      exact e3
theorem zqv{cs:List Ch}{k:Nat}{c:Ch}(h:cs[k]? =some c):∃ j0 c0,zb4 cs c.blk c.cell=some j0/\k<=j0/\cs[j0]? =some c0/\c0.blk=c.blk/\c0.cell=c.cell:=by
 obtain⟨j0,c0,e1,e2,e3,e4,e5⟩:=ztc (l:=cs.reverse) (i:=c.blk) (j:=c.cell) (by rw[List.reverse_reverse];exact h) rfl rfl
 rw[List.reverse_reverse]at e3
 exact⟨j0,c0,e1,e2,e3,by omega,by omega⟩
theorem outsW_out{cs:List Ch}{outs:Int->Bool}{b k:Nat}:zix cs outs b k=true↔outs k=true\/k∈(outcome cs outs (λ_=>false) b).out:=by
 unfold zix
 rw[Bool.or_eq_true,List.any_eq_true]
 constructor
 ·rintro (h | ⟨k',hk',e⟩)
  ·exact .inl h
  ·have e:(k:Int)=k':=by simpa using e
   have e:k=k':=by omega
   exact .inr (e ▸ hk')
 ·rintro (h | h)
  ·exact .inl h
  ·exact .inr ⟨k,h,by simp⟩
end L2
set_option linter.all false
namespace L2
open PySem PySem.Spec PyProof.Rows
theorem zos{i j:Int}:∀ {l:List Ch} {k:Nat},zig l i j=some k->∃ c,l.reverse[k]? =some c/\(c.blk:Int)=i/\(c.cell:Int)=j
  | [],k,h=>by cases h
  | c1::r,k,h=>by
    unfold zig at h
    by_cases hp:(c1.blk:Int)=i/\(c1.cell:Int)=j
    · rw[if_pos hp]at h
      cases h
      refine⟨c1,?_,hp⟩
      rw[List.reverse_cons,List.getElem?_append_right (by rw[List.length_reverse];exact Nat.le_refl _)]
      simp
    · rw[if_neg hp]at h
      obtain⟨c,e,h2⟩:=zos h
      refine⟨c,?_,h2⟩
      have:=zjy h
      rw[List.reverse_cons,List.getElem?_append_left (by rw[List.length_reverse];exact this)]
      exact e
theorem zl4{cs:List Ch}{i j:Int}{k:Nat}(h:zb4 cs i j=some k):∃ c,cs[k]? =some c/\(c.blk:Int)=i/\(c.cell:Int)=j:=by
 obtain⟨c,e,h2⟩:=zos (l:=cs.reverse) h
 rw[List.reverse_reverse]at e
 exact⟨c,e,h2⟩
end L2
set_option linter.all false
namespace L2
open PySem PySem.Spec PyProof.Rows
def zvp(cs:List Ch):Prop:=∀ (k:Nat) (c:Ch),cs[k]? =some c->∀ y∈c.nd,∃ (k':Nat) (c':Ch),y=k'/\k'<k/\cs[k']? =some c'/\c'.blk=c.blk
theorem zt1 {cs:List Ch} {outs:Int->Bool} {b:Nat} (own:zvp cs):∀ (l2 l1:List Nat) (s:Pass),zd5 cs b=l1++l2->(∀ k∈l1,outs k=true\/s.gone k=true)->(∀ k:Nat,s.gone k=true->k∈s.out)->∀ k∈zd5 cs b,outs k=true\/k∈(l2.foldl (zeb cs outs) s).out
  | [],l1,s,e,h,hg,k,hk=>by
    rw[e,List.append_nil]at hk
    exact(h k hk).elim .inl λz=>.inr (hg k z)
  | k0 :: l2, l1,s,e,h,hg,k,hk=>by
    rw[List.foldl_cons]
    have rise:=zm2 cs b
    rw[e]at rise
    have e':zd5 cs b=(l1++[k0])++l2:=by rw[e];simp
    have m0:k0∈zd5 cs b:=by rw[e];simp
    obtain⟨c0,ec0,hb0⟩:=mem_inBlk.mp m0
    by_cases ho:(outs k0 || s.gone k0)=true
    · have st:zeb cs outs s k0=s:=by unfold zeb;rw[if_pos ho]
      rw[st]
      refine zt1 own l2 (l1++[k0]) _ e' (λk' hk'=> ?_) hg k hk
      rcases List.mem_append.mp hk' with z | z
      ·exact h k' z
      · rw[List.mem_singleton.mp z]
        simpa using ho
    · have hl : zor c0.nd (λx=>outs x || s.gone x)=none:=zabi λy hy=>by
        obtain⟨k',c',rfl,hlt,ec',hb'⟩:=own k0 c0 ec0 y hy
        have m':k'∈zd5 cs b:=mem_inBlk.mpr ⟨c',ec',hb'.trans hb0⟩
        rw[e]at m'
        have:k'∈l1:=by
          rcases List.mem_append.mp m' with z | z
          ·exact z
          · have r2:=(List.pairwise_append.mp rise).2.1
            rcases List.mem_cons.mp z with z | z
            ·omega
            · have:=(List.pairwise_cons.mp r2).1 k' z
              omega
        have:=h k' this
        simpa using this
      have st:zeb cs outs s k0=⟨s.out++[k0],s.held,λx=>s.gone x || x ==(k0:Int)⟩:=by
        unfold zeb
        rw[if_neg ho,ec0,Option.bind_some,hl]
      rw[st]
      refine zt1 own l2 (l1++[k0]) _ e' (λk' hk'=> ?_) (λk' hk'=> ?_) k hk
      · rcases List.mem_append.mp hk' with z | z
        · rcases h k' z with z | z
          ·exact .inl z
          ·exact .inr (by show(s.gone k' || _)=true;rw[z];rfl)
        · rw[List.mem_singleton.mp z]
          exact .inr (by show(s.gone k0 || _)=true;simp)
      · have hk':(s.gone k' || (k':Int) ==(k0:Int))=true:=hk'
        rw[Bool.or_eq_true]at hk'
        rcases hk' with z | z
        ·exact List.mem_append_left _ (hg k' z)
        · have:k'=k0:=by have:=eq_of_beq z;omega
          rw[this]
          exact List.mem_append_right _ (List.mem_singleton.mpr rfl)
theorem zabj{cs:List Ch}{outs:Int->Bool}{b:Nat}(own:zvp cs){k:Nat}(hk:k∈zd5 cs b):zix cs outs b k=true :=
 outsW_out.mpr (zt1 (outs:=outs) own (zd5 cs b) [] ⟨[],[],λ_=>false⟩ rfl (by simp) (by simp) k hk)
theorem zac4{cs:List Ch}{outs:Int->Bool}{b:Nat}(own:zvp cs){k:Nat}{c:Ch}(ec:cs[k]? =some c):zix cs outs b k=(outs k || c.blk == b):=by
 rw[Bool.eq_iff_iff,Bool.or_eq_true]
 constructor
 ·intro h
  rcases outsW_out.mp h with z | z
  ·exact .inl z
  ·obtain⟨c',e',hb⟩:=mem_inBlk.mp (zkn.2.1 k z).2
   rw[ec]at e';cases e'
   exact .inr (by simp[hb])
 ·intro h
  rcases h with z | z
  ·exact outsW_out.mpr (.inl z)
  ·exact zabj own (mem_inBlk.mpr ⟨c,ec,eq_of_beq z⟩)
theorem zac5 {cs:List Ch} {outs:Int->Bool} {b j:Nat} {row:List V} (own:zvp cs) (hj:j<row.length):(zf4 cs (zix cs outs b) b row)[j]? =match zb4 cs b j with
    | some k=>(cs[k]?).map (·.val)
    | none=>row[j]? :=by
  have hf:((zd5 cs b).filter λ(k:Nat)=>zix cs outs b k)=zd5 cs b:=List.filter_eq_self.mpr λk hk=>zabj own hk
  rw[zzm,hf,zyo,List.getElem?_eq_getElem hj]
  cases hn:zb4 cs b j with
  | none =>
    cases el:zje cs (zd5 cs b) j with
    | none=>rfl
    | some c' =>
      obtain⟨k',hk',ec',hj',mx⟩:=lastAt_some el
      obtain⟨c2,e2,b2⟩:=mem_inBlk.mp hk'
      rw[ec']at e2;cases e2
      obtain⟨j0,c0,e1,_⟩:=zqv ec'
      rw[b2,hj',hn]at e1
      cases e1
  | some n0 =>
    obtain⟨c,ec,hb,hc⟩:=zl4 hn
    have m0:n0∈zd5 cs b:=mem_inBlk.mpr ⟨c,ec,by omega⟩
    cases el:zje cs (zd5 cs b) j with
    | none=>exact absurd (show c.cell=j by omega) (lastAt_some.lastAt_no el n0 m0 c ec)
    | some c' =>
      obtain⟨k',hk',ec',hj',mx⟩:=lastAt_some el
      obtain⟨c2,e2,b2⟩:=mem_inBlk.mp hk'
      rw[ec']at e2;cases e2
      obtain⟨j0,c0,e1,e3,e4,e5,e6⟩:=zqv ec'
      rw[b2,hj',hn]at e1
      cases e1
      have:k'=n0:=by
        rcases Nat.lt_or_ge k' n0 with z | z
        ·exact absurd (show c.cell=j by omega) (mx (zm2 cs b) n0 m0 z c ec)
        ·omega
      subst this
      rw[ec']at ec;cases ec
      show some c.val=(cs[k']?).map _
      rw[ec']
      rfl
end L2
set_option linter.all false
namespace L2
open PySem PySem.Spec PyProof.Rows
structure TLay(K:PySem.W.Frag)(a:Ad):Prop where
 cl:Cls K (a "Layout")
 n1:NoAttr K (a "Layout") "name_blocks"
 n2:NoAttr K (a "Layout") "record_blocks"
 n3:NoAttr K (a "Layout") "piece_blocks"
 n4:NoAttr K (a "Layout") "width"
section
variable{n r c w:Int}
def lf(n r c w:Int):List (Str × V):=[("name_blocks",.int n),("record_blocks",.int r),("piece_blocks",.int c),("width",.int w)]
theorem lf_n:(lf n r c w).lookup ("name_blocks":Str)=some (V.int n):=by simp[lf]
theorem lf_r:(lf n r c w).lookup ("record_blocks":Str)=some (V.int r):=by
 simp[lf,List.lookup_cons,s_ne (a:="record_blocks") (b:="name_blocks") (by decide +kernel)]
theorem lf_c:(lf n r c w).lookup ("piece_blocks":Str)=some (V.int c):=by
 simp[lf,List.lookup_cons,s_ne (a:="piece_blocks") (b:="name_blocks") (by decide +kernel),s_ne (a:="piece_blocks") (b:="record_blocks") (by decide +kernel)]
theorem lf_w:(lf n r c w).lookup ("width":Str)=some (V.int w):=by
 simp[lf,List.lookup_cons,s_ne (a:="width") (b:="name_blocks") (by decide +kernel),s_ne (a:="width") (b:="record_blocks") (by decide +kernel),s_ne (a:="width") (b:="piece_blocks") (by decide +kernel)]
theorem zgw{x:Str}(h:(zoz x "name_blocks" || zoz x "record_blocks" || zoz x "piece_blocks" || zoz x "width")=false):(lf n r c w).lookup x=none:=by
 simp only[Bool.or_eq_false_iff]at h
 obtain⟨⟨⟨h1,h2⟩,h3⟩,h4⟩:=h
 simp[lf,List.lookup_cons,s_ne h1,s_ne h2,s_ne h3,s_ne h4]
theorem zah4:putF "width" (.int w) (putF "piece_blocks" (.int c) (putF "record_blocks" (.int r) (putF "name_blocks" (.int n) [])))=lf n r c w:=by
 repeat (first | rw[zl3] | rw[zqs (by decide +kernel)])
 rfl
end
structure LayAt(a:Ad)(H:Hp)(p:Addr)(n r c w:Nat):Prop where
 ob:∃ dx,H p=some (.ins (a "Layout") dx (lf n r c w))
 hn:n<=100
 hr:r<=100
 hc:c<=100
 h1:1<=w
 hw:w<=100
theorem LayAt.same{a:Ad}{H H':Hp}{p:Addr}{n r c w:Nat}(L:LayAt a H p n r c w)(s:Same H H'):LayAt a H' p n r c w:=by
 obtain⟨⟨dx,e⟩,z1,z2,z3,z4,z5⟩:=L
 exact⟨⟨dx,s _ _ e⟩,z1,z2,z3,z4,z5⟩
theorem LayAt.sb{a:Ad}{F:Addr->Prop}{H H':Hp}{p:Addr}{n r c w:Nat}(L:LayAt a H p n r c w)(s:SameBut F H H')(f:¬ F p):LayAt a H' p n r c w:=by
 obtain⟨⟨dx,e⟩,z1,z2,z3,z4,z5⟩:=L
 exact⟨⟨dx,s _ _ e f⟩,z1,z2,z3,z4,z5⟩
def zck(K:PySem.W.Frag)(a:Ad):Sp:=λvs H Q _=>∃ (p dx:Addr) (n r c w:Nat),vs=[.ref p,.int n,.int r,.int c,.int w]/\TLay K a/\H p=some (.ins (a "Layout") dx [])/\n<=100/\r<=100/\c<=100/\1<=w/\w<=100 ∧
 ∀ H',LayAt a H' p n r c w->SameBut (· =p) H H'->Q .non H'
def zot(x y:Int)(Q:VK)(H:Hp):Prop:=∀ t,H t=none->Q (.ref t) (upd H t (.tup [.int x,.int y]))
def zam(K:PySem.W.Frag)(a:Ad):Sp:=λvs H Q _=>∃ (p:Addr) (n r c w k:Nat) (b:Int),vs=[.ref p,.int b,.int k]/\TLay K a/\LayAt a H p n r c w/\zot (b+k / w) (k % w) Q H
def za4(K:PySem.W.Frag)(a:Ad):Sp:=λvs H Q _=>∃ (p:Addr) (n r c w k:Nat),vs=[.ref p,.int k]/\TLay K a/\LayAt a H p n r c w/\zot (0+k / w) (k % w) Q H
def zbb(K:PySem.W.Frag)(a:Ad):Sp:=λvs H Q _=>∃ (p:Addr) (n r c w k:Nat),vs=[.ref p,.int k]/\TLay K a/\LayAt a H p n r c w/\zot (n+k / w) (k % w) Q H
def zbi(K:PySem.W.Frag)(a:Ad):Sp:=λvs H Q _=>∃ (p:Addr) (n r c w k:Nat),vs=[.ref p,.int k]/\TLay K a/\LayAt a H p n r c w/\zot (n+r+k / w) (k % w) Q H
def zau(K:PySem.W.Frag)(a:Ad):Sp:=λvs H Q _=>∃ (p:Addr) (n r c w k:Nat),vs=[.ref p,.int k]/\TLay K a/\LayAt a H p n r c w/\zot (n+r+c+k / w) (k % w) Q H
def zaw(K:PySem.W.Frag)(a:Ad):Sp:=λvs H Q _=>∃ (p:Addr) (n r c w k:Nat),vs=[.ref p,.int k]/\TLay K a/\LayAt a H p n r c w/\zot (n+r+c+r+k / w) (k % w) Q H
def zal(K:PySem.W.Frag)(a:Ad):Sp:=λvs H Q _=>∃ (p:Addr) (n r c w:Nat),vs=[.ref p]/\TLay K a/\LayAt a H p n r c w/\Q (.int (n+r+c)) H
def zb1(K:PySem.W.Frag)(a:Ad):Sp:=λvs H Q _=>∃ (p:Addr) (n r c w:Nat),vs=[.ref p]/\TLay K a/\LayAt a H p n r c w/\Q (.int (n+r+c+r+c)) H
def zan(K:PySem.W.Frag)(a:Ad):Sp:=λvs H Q _=>∃ (p:Addr) (n r c w:Nat),vs=[.ref p]/\TLay K a/\LayAt a H p n r c w/\∀ t,H t=none->Q (.ref t) (upd H t (.tup [.int (n * w),.int (r * w),.int (c * w)]))
def zb8(K:PySem.W.Frag)(a:Ad):Sp:=λvs H Q _=>∃ (p:Addr) (n r c w:Nat),vs=[.ref p]/\TLay K a/\zc0 K a/\LayAt a H p n r c w ∧
 ∀ x cl H',H x=none->H cl=none->PlankAt a H' x cl w (List.replicate (n+r+c+r+c) (List.replicate w .non)) 0->Same H H'->Q (.ref x) H'
end L2
set_option linter.all false
namespace L2
open PySem PySem.Spec PyProof.Rows
abbrev bkC(a:Ad):Addr:=a "Hold"
def mill(c t:Int):Int:=(((c % 899809363+13 * t+5) * (c % 899809363+13 * t+5) % 899809363) * ((c % 899809363+13 * t+5)+t) % 899809363) / 7
def zqw(ns:List Int)(k:Nat):Int:=ns.getD k 0
def zat(K:PySem.W.Frag)(a:Ad):Sp:=λvs H Q _=>∃ c t:Int,vs=[.int c,.int t]/\0<=t/\t<=1000/\Q (.int (mill c t)) H
theorem zcl{K:PySem.W.Frag}{a:Ad}{c t:Int}{H:Hp}{Q:VK}{E:XK}:zat K a [.int c,.int t] H Q E=(0<=t/\t<=1000/\Q (.int (mill c t)) H):=by simp[zat,and_assoc]
def za5(K:PySem.W.Frag)(a:Ad):Sp:=λvs H Q _=>∃ (s:Addr) (ns:List Int) (k:Nat),vs=[.ref s,.int k]/\SqL K H s (ns.map V.int)/\ns.length<=1000/\Q (.int (zqw ns k)) H
theorem zh6{K:PySem.W.Frag}{a:Ad}{s:Addr}{k:Int}{H:Hp}{Q:VK}{E:XK}:za5 K a [.ref s,.int k] H Q E=∃ (ns:List Int) (n:Nat),k=n/\SqL K H s (ns.map V.int)/\ns.length<=1000/\Q (.int (zqw ns n)) H:=by simp[za5,and_assoc]
abbrev TB(K:PySem.W.Frag)(a:Ad):Prop:=zah3 K (bkC a) (a "Change")
abbrev BkAt(a:Ad)(H:Hp)(A:BA)(w:Nat)(rows:List (List V))(n:Nat)(cs:List Ch)(outs:Int->Bool):Prop:=BookAt a (bkC a) H A w rows n cs outs
def optV:Option Nat->V
 | none=>.non
 | some k=>.int k
def ziy(n:Nat)(outs:Int->Bool):List Nat:=(List.range n).filter λ(k:Nat)=> !outs k
def nats(l:List Nat):List V:=l.map λ(k:Nat)=>V.int k
abbrev onPl(rows:List (List V))(w:Nat)(i j:Int):Prop:=0<=i/\i<rows.length/\0<=j/\j<w
def zcm(K:PySem.W.Frag)(a:Ad):Sp:=λvs H Q _=>∃ x dx pl v nt,vs=[.ref x,.ref pl,v,.ref nt]/\TB K a/\H x=some (.ins (a "Change") dx [])/\Q .non (upd H x (.ins (a "Change") dx (chf pl v nt)))
def zc2(K:PySem.W.Frag)(a:Ad):Sp:=λvs H Q _=>∃ (b gp cl dx:Addr) (w:Nat) (rows:List (List V)) (n:Nat),vs=[.ref b,.ref gp]/\TB K a/\zc0 K a/\PlankAt a H gp cl w rows n/\H b=some (.ins (bkC a) dx []) ∧
 ∀ (m mi lt ou:Addr) (ls:List Addr) (H':Hp),H m=none->H mi=none->H lt=none->H ou=none->(∀ l∈ls,H l=none)->BkAt a H' ⟨b,gp,m,mi,lt,ou,ls,cl⟩ w rows n [] (λ_=>false)->SameBut (· =b) H H'->Q .non H'
def zc3(K:PySem.W.Frag)(a:Ad):Sp:=λvs H Q _=>∃ (nl:Addr) (ns:List Int) (o:Option Nat),vs=[.ref nl,optV o]/\SqL K H nl (ns.map V.int)/\ns.length<=60 ∧
 ∀ (t:Addr) (ks:List Int) (H':Hp),Same H H'->H' t=some (.tup (ks.map V.int))->ks.Pairwise (· <·)->(∀ x,x∈ks↔x∈ns\/∃ k:Nat,o=some k/\x=k)->ks.length<=ns.length+1->Q (.ref t) H'
def za0(K:PySem.W.Frag)(a:Ad):Sp:=λvs H Q E=>∃ (A:BA) (w:Nat) (rows:List (List V)) (n:Nat) (cs:List Ch) (outs:Int->Bool) (pl:Addr) (i j:Int),vs=[.ref A.b,.ref pl]/\TB K a/\zc0 K a/\BkAt a H A w rows n cs outs/\H pl=some (.tup [.int i,.int j]) ∧
 (onPl rows w i j->Q .non H)/\(¬ onPl rows w i j->E (.ref (a "NoBlock")) none H)
def zbx(K:PySem.W.Frag)(a:Ad):Sp:=λvs H Q E=>∃ (A:BA) (w:Nat) (rows:List (List V)) (n:Nat) (cs:List Ch) (outs:Int->Bool) (pl:Addr) (i j:Int),vs=[.ref A.b,.ref pl]/\TB K a/\zc0 K a/\BkAt a H A w rows n cs outs/\H pl=some (.tup [.int i,.int j]) ∧
 (onPl rows w i j->Q (optV (zb4 cs i j)) H)/\(¬ onPl rows w i j->E (.ref (a "NoBlock")) none H)
abbrev zzn(cs:List Ch)(x:Int):Prop:=0<=x/\x<cs.length
def zay(K:PySem.W.Frag)(a:Ad):Sp:=λvs H Q E=>∃ (A:BA) (w:Nat) (rows:List (List V)) (n:Nat) (cs:List Ch) (outs:Int->Bool) (nl:Addr) (ns:List Int),vs=[.ref A.b,.ref nl]/\TB K a/\BkAt a H A w rows n cs outs/\SqL K H nl (ns.map V.int) ∧
 ((∀ x∈ns,zzn cs x)->Q .non H)/\((∃ x∈ns,¬ zzn cs x)->E (.ref (a "NoChange")) none H)
def zcn(K:PySem.W.Frag)(a:Ad):Sp:=λvs H Q E=>∃ (A:BA) (w:Nat) (rows:List (List V)) (n:Nat) (cs:List Ch) (outs:Int->Bool) (pl nl:Addr) (v:V) (ns:List Int) (i j:Int),vs=[.ref A.b,.ref pl,v,.ref nl]/\TB K a/\zc0 K a/\BkAt a H A w rows n cs outs/\H pl=some (.tup [.int i,.int j])/\SqL K H nl (ns.map V.int)/\ns.length<=60/\cs.length<500 ∧
 (onPl rows w i j->(∀ x∈ns,zzn cs x)->∀ (nd:List Int) (H':Hp),nd.Pairwise (· <·)->(∀ x,x∈nd↔x∈ns\/∃ k:Nat,zb4 cs i j=some k/\x=k)->BkAt a H' A w rows n (cs++[⟨i.toNat,j.toNat,v,nd⟩]) outs->SameBut A.F H H'->Q (.int cs.length) H') ∧
 (¬ onPl rows w i j->E (.ref (a "NoBlock")) none H)/\(onPl rows w i j->(∃ x∈ns,¬ zzn cs x)->E (.ref (a "NoChange")) none H)
def zb9(K:PySem.W.Frag)(a:Ad):Sp:=λvs H Q _=>∃ (A:BA) (w:Nat) (rows:List (List V)) (n:Nat) (cs:List Ch) (outs:Int->Bool),vs=[.ref A.b]/\TB K a/\BkAt a H A w rows n cs outs ∧
 ∀ (l:Addr) (H':Hp),H l=none->Same H H'->H' l=some (.lst (nats (ziy cs.length outs)))->Q (.ref l) H'
def zec(cs:List Ch)(rows:List (List V))(i j:Int):Option V:=match zb4 cs i j with
 | some k=>(cs[k]?).map (·.val)
 | none=>(rows[i.toNat]?).bind λr=>r[j.toNat]?
def zbl(K:PySem.W.Frag)(a:Ad):Sp:=λvs H Q E=>∃ (A:BA) (w:Nat) (rows:List (List V)) (n:Nat) (cs:List Ch) (outs:Int->Bool) (pl:Addr) (i j:Int),vs=[.ref A.b,.ref pl]/\TB K a/\zc0 K a/\BkAt a H A w rows n cs outs/\H pl=some (.tup [.int i,.int j]) ∧
 (onPl rows w i j->∀ (v:V) (H':Hp),zec cs rows i j=some v->Same H H'->Q v H')/\(¬ onPl rows w i j->E (.ref (a "NoBlock")) none H)
def optI:Option Int->V
 | none=>.non
 | some k=>.int k
abbrev hasK(kvs:List (Key × V))(x:Int):Bool:=(valV kvs (.inl x)).isSome
def zca(K:PySem.W.Frag)(a:Ad):Sp:=λvs H Q _=>∃ (A:BA) (w:Nat) (rows:List (List V)) (n:Nat) (cs:List Ch) (outs:Int->Bool) (k:Nat) (c:Ch) (g:Addr) (kvg:List (Key × V)),vs=[.ref A.b,.int k,.ref g]/\TB K a/\BkAt a H A w rows n cs outs/\cs[k]? =some c/\H g=some (.dK kvg) ∧
 Q (optI (zor c.nd λx=>outs x || hasK kvg x)) H
def zcb(K:PySem.W.Frag)(a:Ad):Sp:=λvs H Q _=>∃ (A:BA) (w:Nat) (rows:List (List V)) (n:Nat) (cs:List Ch) (outs:Int->Bool) (b:Nat) (tk:Addr) (kvt:List (Key × V)),vs=[.ref A.b,.int b,.ref tk]/\TB K a/\BkAt a H A w rows n cs outs/\b<rows.length/\H tk=some (.dK kvt)/\kvt.length<=1000 ∧
 ∀ (t ol hl:Addr) (H':Hp),H ol=none->H hl=none->ol≠hl->Same H H'->ToldAt H' t ol hl (outcome cs outs (hasK kvt) b).out (outcome cs outs (hasK kvt) b).held->Q (.ref t) H'
def zbs(K:PySem.W.Frag)(a:Ad):Sp:=λvs H Q _=>∃ (A:BA) (w:Nat) (rows:List (List V)) (n:Nat) (cs:List Ch) (outs:Int->Bool) (b:Nat) (vl:Addr) (row:List V),vs=[.ref A.b,.ref vl,.int b]/\TB K a/\BkAt a H A w rows n cs outs/\b<rows.length/\H vl=some (.lst row)/\row.length=w ∧
 ∀ (l:Addr) (H':Hp),H l=none->Same H H'->H' l=some (.lst (zf4 cs outs b row))->Q (.ref l) H'
def zc4 (K:PySem.W.Frag) (a:Ad):Sp:=λvs H Q E=>∃ (A:BA) (w:Nat) (rows:List (List V)) (n:Nat) (cs:List Ch) (outs:Int->Bool) (b:Int),vs=[.ref A.b,.int b]/\TB K a/\zc0 K a/\BkAt a H A w rows n cs outs ∧
  (∀ (b':Nat) (row:List V) (t ol hl:Addr) (H':Hp),b=b'->rows[b']? =some row->H ol=none->H hl=none->ol≠hl->ToldAt H' t ol hl (outcome cs outs (λ_=>false) b').out (outcome cs outs (λ_=>false) b').held →
    BkAt a H' A w (rows.set b' (zf4 cs (zix cs outs b') b' row)) (n+1) cs (zix cs outs b')->SameBut (λx=>A.F x\/x=A.gp) H H'->Q (.ref t) H') ∧
  (b<0\/rows.length<=b->E (.ref (a "NoBlock")) none H)
abbrev zafv(a:Ad):List Value:=[.ref (a "NoBlock"),.ref (a "NoChange"),.ref (a "NoName"),.ref (a "NoPiece"),.ref (a "NoRow"),.ref (a "NotSound"),.ref (a "Twice")]
structure TR(K:PySem.W.Frag)(a:Ad):Prop where
 hit:PySem.W.exmOne K (.ref (a "NoRoom")) (.ref (a "HoldError"))=some true
 ec:ExcC K (a "NoRoom")
 is:PySem.W.kitOne K (.ref (a "NoRoom")) (.ref (a "NoRoom"))=some true
 iv:PySem.W.kitOne K (.ref (a "NoRoom")) (.type "ValueError")=some true
 no:PySem.W.kitAny K (.ref (a "NoRoom")) (zafv a)=some false
def GoodV:Nat->Hp->V->Prop
 | 0,_,_=>False
 | _+1,_,.int _=>True
 | _+1,_,.non=>True
 | _+1,_,.str z=>PyData.strOk z=true
 | n+1,H,.ref p=>∃ xs,H p=some (.tup xs)/\xs.length<=100/\∀ v∈xs,GoodV n H v
 | _,_,_=>False
def zac6(v:V):Prop:=v=.non\/∃ i,v=.int i
def kBlk(n r c w kind k:Nat):Nat:=(if kind=0 then 0 else if kind=1 then n+r+c else if kind=2 then n+r+c+r else if kind=3 then n else n+r)+k / w
def zcg(n r c w kind:Nat):Nat:=(if kind=0 then n else if kind=1 then r else if kind=2 then c else if kind=3 then r else c) * w
def zxh(kind:Nat)(v:V):Bool:=decide (v=.non) || (decide (0<kind) && decide (v=.int 0))
abbrev hand(cs:List Ch)(rows:List (List V))(w:Nat)(b k:Nat):Option V:=zec cs rows (b+k / w:Nat) (k % w:Nat)
def lowF(f:Nat->Bool)(m:Nat):Int:=match (List.range m).find? f with
 | some k=>k
 | none=> -1
def zb2(K:PySem.W.Frag)(a:Ad):Sp:=λvs H Q _=>∃ (p:Addr) (n r c w kind k:Nat),vs=[.ref p,.int kind,.int k]/\TLay K a/\LayAt a H p n r c w/\kind<5/\zot (kBlk n r c w kind k) (k % w:Nat) Q H
def zco(K:PySem.W.Frag)(a:Ad):Sp:=λvs H Q _=>∃ (p:Addr) (n r c w kind:Nat) (x:Int),vs=[.ref p,.int kind,.int x]/\TLay K a/\LayAt a H p n r c w/\1<=r/\1<=c/\0<=x/\∀ v H',Same H H'->GoodV 4 H' v->Q v H'
def zdm(K:PySem.W.Frag)(a:Ad):Sp:=λvs H Q _=>∃ (kind:Nat) (x:Int),vs=[.int kind,.int x]/\∀ v H',Same H H'->GoodV 4 H' v->Q v H'
def RowsM(H:Hp)(rl:Addr)(rs:List Addr)(rows:List (List V)):Prop:=H rl=some (.lst (rs.map V.ref))/\rs.Nodup/\rl∉rs/\Paired (λl r=>H l=some (.lst r)) rs rows
def zabk(H:Hp)(rows:List (List V)):Prop:=∀ r∈rows,∀ v∈r,GoodV 4 H v
def zep(K:PySem.W.Frag)(a:Ad):Sp:=λvs H Q _=>∃ (p rl s:Addr) (rs:List Addr) (rows:List (List V)) (n r c w:Nat) (ns:List Int),vs=[.ref p,.ref rl,.ref s]/\TLay K a/\LayAt a H p n r c w/\1<=n/\1<=r/\1<=c/\n<=6/\r<=6/\c<=6/\w<=6/\RowsM H rl rs rows/\rows.length=n+r+c+r+c/\(∀ r∈rows,r.length=w)/\zabk H rows/\SqL K H s (ns.map V.int)/\ns.length<=63 ∧
 ∀ rows' H',rows'.length=rows.length->(∀ r∈rows',r.length=w)->RowsM H' rl rs rows'->zabk H' rows'->SameBut (λx=>x∈rs) H H'->Q .non H'
def HandD(H:Hp)(hd:Addr)(cs:List Ch)(rows:List (List V))(w:Nat):Prop:=∃ kvs,H hd=some (.dT kvs)/\kvs.length<=500+cs.length/\(∀ p∈kvs,∃ i j:Int,p.1=[.inl i,.inl j]/\onPl rows w i j)/\∀ i j:Int,onPl rows w i j->∃ v,valV kvs [.inl i,.inl j]=some v/\zec cs rows i j=some v
def goodH(H:Hp)(cs:List Ch)(rows:List (List V)):Prop:=zabk H rows/\∀ c∈cs,GoodV 4 H c.val
def zo1(cs:List Ch)(rows:List (List V))(n r c w kind:Nat)(k:Nat):Bool:=match zec cs rows (kBlk n r c w kind k:Nat) (k % w:Nat)with
 | some v=>zxh kind v
 | none=>false
def zc5(K:PySem.W.Frag)(a:Ad):Sp:=λvs H Q _=>∃ (p hd:Addr) (n r c w kind:Nat) (cs:List Ch) (rows:List (List V)),vs=[.ref p,.ref hd,.int kind]/\TLay K a/\LayAt a H p n r c w/\kind<3/\n<=6/\r<=6/\c<=6/\w<=6/\rows.length=n+r+c+r+c/\HandD H hd cs rows w/\goodH H cs rows/\(∀ i j v,zec cs rows i j=some v->GoodV 4 H v) ∧
 ∀ H',Same H H'->Q (.int (lowF (zo1 cs rows n r c w kind) (zcg n r c w kind))) H'
def za6(K:PySem.W.Frag)(a:Ad):Sp:=λvs H Q E=>∃ (A:BA) (w:Nat) (rows:List (List V)) (n:Nat) (cs:List Ch) (outs:Int->Bool) (pl vl:Addr) (ts:List Addr) (xs:List V) (f:Nat->Bool) (m:Nat),vs=[.ref A.b,.ref pl,.ref vl]/\TB K a/\zc0 K a/\BkAt a H A w rows n cs outs/\H pl=some (.lst (ts.map V.ref))/\ts.length=m/\m<=1000/\H vl=some (.tup xs)/\(∀ z∈xs,zac6 z) ∧
 (∀ k t,ts[k]? =some t->∃ i j v,H t=some (.tup [.int i,.int j])/\onPl rows w i j/\zec cs rows i j=some v/\GoodV 4 H v/\f k=decide (v∈xs)) ∧
 (∀ k:Nat,lowF f m=k->∀ H',Same H H'->Q (.int k) H')/\(lowF f m= -1->∀ H',Same H H'->E (.ref (a "NoRoom")) none H')
def zt2(kind:Nat)(K:PySem.W.Frag)(a:Ad)(p b:Addr)(H:Hp)(Q:VK)(E:XK):Prop:=∃ (A:BA) (n r c w:Nat) (rows:List (List V)) (nn:Nat) (cs:List Ch) (outs:Int->Bool),b=A.b/\TB K a/\zc0 K a/\TLay K a/\LayAt a H p n r c w/\n<=6/\r<=6/\c<=6/\w<=6/\BkAt a H A w rows nn cs outs/\rows.length=n+r+c+r+c/\(∀ i j v,zec cs rows i j=some v->GoodV 4 H v) ∧
 (∀ k:Nat,lowF (zo1 cs rows n r c w kind) (zcg n r c w kind)=k->∀ H',Same H H'->Q (.int k) H')/\(lowF (zo1 cs rows n r c w kind) (zcg n r c w kind)= -1->∀ H',Same H H'->E (.ref (a "NoRoom")) none H')
def zdn(K:PySem.W.Frag)(a:Ad):Sp:=λvs H Q E=>∃ p b,vs=[.ref p,.ref b]/\zt2 0 K a p b H Q E
def zcp(K:PySem.W.Frag)(a:Ad):Sp:=λvs H Q E=>∃ p b,vs=[.ref p,.ref b]/\zt2 1 K a p b H Q E
def zc6(K:PySem.W.Frag)(a:Ad):Sp:=λvs H Q E=>∃ p b,vs=[.ref p,.ref b]/\zt2 2 K a p b H Q E
def zfx(K:PySem.W.Frag)(a:Ad):Sp:=λvs H Q E=>∃ p b kind,vs=[.int (kind:Nat),.ref p,.ref b]/\kind<3/\zt2 kind K a p b H Q E
def zdo(K:PySem.W.Frag)(a:Ad):Sp:=λvs H Q _=>∃ (p:Addr) (A:BA) (kind n r c w:Nat) (rows:List (List V)) (nn:Nat) (cs:List Ch) (outs:Int->Bool),vs=[.int kind,.ref p,.ref A.b,.int (lowF (zo1 cs rows n r c w kind) (zcg n r c w kind))]/\kind<3/\TB K a/\zc0 K a/\TLay K a/\TR K a/\LayAt a H p n r c w/\n<=6/\r<=6/\c<=6/\w<=6/\BkAt a H A w rows nn cs outs/\rows.length=n+r+c+r+c/\(∀ i j v,zec cs rows i j=some v->GoodV 4 H v)/\∀ H',Same H H'->Q (.bl true) H'
def zbn(K:PySem.W.Frag)(a:Ad):Sp:=λvs H Q _=>∃ (p hd:Addr) (A:BA) (n r c w:Nat) (rows:List (List V)) (nn:Nat) (cs:List Ch) (outs:Int->Bool) (x:Int),vs=[.ref p,.ref A.b,.ref hd,.int x]/\0<=x/\TB K a/\zc0 K a/\TLay K a/\TR K a/\LayAt a H p n r c w/\n<=6/\r<=6/\c<=6/\w<=6/\BkAt a H A w rows nn cs outs/\rows.length=n+r+c+r+c/\HandD H hd cs rows w/\goodH H cs rows/\∀ H',Same H H'->Q (.bl true) H'
def WtAt(H:Hp)(cs:List Ch)(t:Addr)(k:Nat):Prop:=∃ (p:Addr) (c:Ch),cs[k]? =some c/\H t=some (.tup [.int k,.ref p])/\H p=some (.tup [.int c.blk,.int c.cell])
structure SA where
 A:BA
 lp:Addr
 st:Addr
 hd:Addr
 rl:Addr
 rs:List Addr
 z:Addr
structure ST(a:Ad)(H:Hp)(S:SA)(n r c w:Nat)(zs:List V)(rows:List (List V))(nn:Nat)(cs:List Ch)(outs:Int->Bool):Prop where
 bk:BkAt a H S.A w rows nn cs outs
 ly:LayAt a H S.lp n r c w
 sd:∃ (kvs:List (Key × V)) (wl:Addr) (ts:List Addr),H S.st=some (.dK kvs)/\kvs.length<=10+2 * nn/\valV kvs (.inr "hand")=some (.ref S.hd)/\valV kvs (.inr "rows")=some (.ref S.rl)/\valV kvs (.inr "waits")=some (.ref wl)/\valV kvs (.inr "writings")=some (.int nn)/\¬ S.A.F wl/\wl≠S.rl/\wl∉S.rs/\wl≠S.z/\H wl=some (.lst (ts.map V.ref))/\Paired (WtAt H cs) ts (ziy cs.length outs)
 hd:HandD H S.hd cs rows w
 rr:RowsM H S.rl S.rs rows
 own:zvp cs
 gd:goodH H cs rows
 ap:¬ S.A.F S.st/\¬ S.A.F S.hd/\¬ S.A.F S.rl/\(∀ l∈S.rs,¬ S.A.F l)/\¬ S.A.F S.z
 zn:S.z≠S.rl/\S.z∉S.rs
 sc:H S.z=some (.lst zs)
 sz:1<=n/\1<=r/\1<=c/\n<=6/\r<=6/\c<=6/\w<=6/\rows.length=n+r+c+r+c
def zc7(K:PySem.W.Frag)(a:Ad):Sp:=λvs H Q _=>∃ (S:SA) (n r c w:Nat) (zs:List V) (rows:List (List V)) (nn:Nat) (cs:List Ch) (outs:Int->Bool) (x:Int),vs=[.ref S.lp,.ref S.A.b,.ref S.st,.int x]/\TB K a/\zc0 K a/\TLay K a/\ST a H S n r c w zs rows nn cs outs/\outs cs.length=false/\cs.length<100 ∧
 ∀ ch H',ST a H' S n r c w zs rows nn (cs++[ch]) outs->Q .non H'
def zdp(K:PySem.W.Frag)(a:Ad):Sp:=λvs H Q _=>∃ (S:SA) (n r c w:Nat) (zs:List V) (rows:List (List V)) (nn:Nat) (cs:List Ch) (outs:Int->Bool) (b:Nat),vs=[.ref S.A.b,.ref S.st,.int b]/\TB K a/\zc0 K a/\ST a H S n r c w zs rows nn cs outs/\b<rows.length/\nn<=200/\cs.length<=100 ∧
 ∀ rows' H',ST a H' S n r c w zs rows' (nn+1) cs (zix cs outs b)->Q .non H'
def zeq(K:PySem.W.Frag)(a:Ad):Sp:=λvs H Q _=>∃ (S:SA) (n r c w:Nat) (zs:List V) (rows:List (List V)) (nn:Nat) (cs:List Ch) (outs:Int->Bool),vs=[.ref S.A.b,.ref S.A.gp,.ref S.st]/\TB K a/\zc0 K a/\ST a H S n r c w zs rows nn cs outs/\cs.length<=100/\∀ H',Q (.bl true) H'
def sp_law(K:PySem.W.Frag)(a:Ad):Sp:=λvs H Q _=>∃ (s:Addr) (ns:List Int),vs=[.ref s]/\TB K a/\zc0 K a/\TLay K a/\TR K a/\SqL K H s (ns.map V.int)/\ns.length<=63/\∀ H',Q (.bl true) H'
end L2
set_option linter.all false
namespace L2
open PySem PySem.Spec PyProof.Rows
abbrev FK:=PySem.W.Frag
abbrev XE:=St->XK
theorem ap3{f g:TS}(h:f=g)(D:Ends)(σ:St)(H:Hp):f D σ H=g D σ H:=by rw[h]
section
variable{K:FK}{a:Ad}{n:Nat}{E E1:XE}{D:Ends}{σ:St}{H:Hp}
def rd_Change_init_1(K:FK)(a:Ad)(E E1:XE):TS:=(sFld K (tVr 0) (tVr 1) "place")
theorem zkp:type_of% (ap3 (rd_Change_init_1.eq_1 K a E E1) D σ H):=rfl
def rd_Change_init_2(K:FK)(a:Ad)(E E1:XE):TS:=(sFld K (tVr 0) (tVr 2) "value")
theorem zkq:type_of% (ap3 (rd_Change_init_2.eq_1 K a E E1) D σ H):=rfl
def rd_Change_init_3(K:FK)(a:Ad)(E E1:XE):TS:=(sFld K (tVr 0) (tVr 3) "needs")
theorem zkr:type_of% (ap3 (rd_Change_init_3.eq_1 K a E E1) D σ H):=rfl
def zgm(K:FK)(a:Ad)(E:XE):TS:=(tSeq (rd_Change_init_1 K a E E) (tSeq (rd_Change_init_2 K a E E) (rd_Change_init_3 K a E E)))
def rd_Book_waiting_1(K:FK)(a:Ad)(E E1:XE):TS:=(tRet (zlv (ziw (zad (tCB (zbf K) (zad (tFld K (tVr 0) "made") tNil)) tNil)) (zaz 0) (tB (zkg (tVr 0) (tFld K (tVr 1) "outs"))) (tVr 0) 1 [0]))
theorem zj2:type_of% (ap3 (rd_Book_waiting_1.eq_1 K a E E1) D σ H):=rfl
def zf5(K:FK)(a:Ad)(E:XE):TS:=(rd_Book_waiting_1 K a E E)
def rd_Book_ask_for_changes_1(K:FK)(a:Ad)(E E1:XE):TS:=(zqo (a "NoChange") E (zad (tC (.str "there is no change of such a number")) tNil))
theorem zed:type_of% (ap3 (rd_Book_ask_for_changes_1.eq_1 K a E E1) D σ H):=rfl
def rd_Book_ask_for_changes_2(K:FK)(a:Ad)(E E1:XE):TS:=(tIfS (tNot (zen (zsu rLeA rLtA (tC (.int 0)) (tVr 2) (tCB (zbf K) (zad (tFld K (tVr 0) "made") tNil))))) (rd_Book_ask_for_changes_1 K a E E) ze1)
theorem zee:type_of% (ap3 (rd_Book_ask_for_changes_2.eq_1 K a E E1) D σ H):=rfl
def rd_Book_ask_for_changes_3(K:FK)(a:Ad)(E E1:XE):TS:=(tFor (iSeq K (tVr 1)) (zaz 2) (rd_Book_ask_for_changes_2 K a E E))
theorem zef:type_of% (ap3 (rd_Book_ask_for_changes_3.eq_1 K a E E1) D σ H):=rfl
def zci(K:FK)(a:Ad)(E:XE):TS:=(rd_Book_ask_for_changes_3 K a E E)
def rd_needs_with_1(K:FK)(a:Ad)(E E1:XE):TS:=(tRet (tCB (ze4 K) (zad (zp9 K (tVr 0)) tNil)))
theorem zhm:type_of% (ap3 (rd_needs_with_1.eq_1 K a E E1) D σ H):=rfl
def rd_needs_with_2(K:FK)(a:Ad)(E E1:XE):TS:=(tIfS (zen (tOp rIsN (tVr 1) (tC .non))) (rd_needs_with_1 K a E E) ze1)
theorem zhn:type_of% (ap3 (rd_needs_with_2.eq_1 K a E E1) D σ H):=rfl
def rd_needs_with_3(K:FK)(a:Ad)(E E1:XE):TS:=(tRet (tCB (ze4 K) (zad (zp9 K (tOp (zfz K) (tCB (zeo K) (zad (tVr 0) tNil)) (tLst (zad (tVr 1) tNil)))) tNil)))
theorem zho:type_of% (ap3 (rd_needs_with_3.eq_1 K a E E1) D σ H):=rfl
def zf6(K:FK)(a:Ad)(E:XE):TS:=(tSeq (rd_needs_with_2 K a E E) (rd_needs_with_3 K a E E))
def rd_Hold_lack_of_1(K:FK)(a:Ad)(E E1:XE):TS:=(tRet (tVr 3))
theorem ze9:type_of% (ap3 (rd_Hold_lack_of_1.eq_1 K a E E1) D σ H):=rfl
def rd_Hold_lack_of_2(K:FK)(a:Ad)(E E1:XE):TS:=(tIfS (tAnd (tB (zkg (tVr 3) (tFld K (tVr 0) "outs"))) (tB (zkg (tVr 3) (tVr 2)))) (rd_Hold_lack_of_1 K a E E) ze1)
theorem zfa:type_of% (ap3 (rd_Hold_lack_of_2.eq_1 K a E E1) D σ H):=rfl
def rd_Hold_lack_of_3(K:FK)(a:Ad)(E E1:XE):TS:=(tFor (iSeq K (tFld K (tOp (rIxA K) (tFld K (tVr 0) "made") (tVr 1)) "needs")) (zaz 3) (rd_Hold_lack_of_2 K a E E))
theorem zfb:type_of% (ap3 (rd_Hold_lack_of_3.eq_1 K a E E1) D σ H):=rfl
def rd_Hold_lack_of_4(K:FK)(a:Ad)(E E1:XE):TS:=(tRet (tC .non))
theorem zfc:type_of% (ap3 (rd_Hold_lack_of_4.eq_1 K a E E1) D σ H):=rfl
def zf7(K:FK)(a:Ad)(E:XE):TS:=(tSeq (rd_Hold_lack_of_3 K a E E) (rd_Hold_lack_of_4 K a E E))
def rd_Hold_laid_over_1(K:FK)(a:Ad)(E E1:XE):TS:=(tAsg (tCB (zeo K) (zad (tVr 1) tNil)) (zaz 3))
theorem zd6:type_of% (ap3 (rd_Hold_laid_over_1.eq_1 K a E E1) D σ H):=rfl
def rd_Hold_laid_over_2(K:FK)(a:Ad)(E E1:XE):TS:=(tAsg (tFld K (tOp (rIxA K) (tFld K (tVr 0) "made") (tVr 4)) "value") (gSub (tVr 3) (tOp (rIxA K) (tFld K (tOp (rIxA K) (tFld K (tVr 0) "made") (tVr 4)) "place") (tC (.int 1))) zaaq))
theorem zd7:type_of% (ap3 (rd_Hold_laid_over_2.eq_1 K a E E1) D σ H):=rfl
def rd_Hold_laid_over_3(K:FK)(a:Ad)(E E1:XE):TS:=(tIfS (tB (tDIn (tVr 4) (tFld K (tVr 0) "outs"))) (rd_Hold_laid_over_2 K a E E) ze1)
theorem zd8:type_of% (ap3 (rd_Hold_laid_over_3.eq_1 K a E E1) D σ H):=rfl
def rd_Hold_laid_over_4(K:FK)(a:Ad)(E E1:XE):TS:=(tFor (iSeq K (tOp (rIxA K) (tFld K (tVr 0) "made_in") (tVr 2))) (zaz 4) (rd_Hold_laid_over_3 K a E E))
theorem zd9:type_of% (ap3 (rd_Hold_laid_over_4.eq_1 K a E E1) D σ H):=rfl
def rd_Hold_laid_over_5(K:FK)(a:Ad)(E E1:XE):TS:=(tRet (tVr 3))
theorem zea:type_of% (ap3 (rd_Hold_laid_over_5.eq_1 K a E E1) D σ H):=rfl
def ze5(K:FK)(a:Ad)(E:XE):TS:=(tSeq (rd_Hold_laid_over_1 K a E E) (tSeq (rd_Hold_laid_over_4 K a E E) (rd_Hold_laid_over_5 K a E E)))
def rd_Plank_init_1(K:FK)(a:Ad)(E E1:XE):TS:=(sFld K (tVr 0) (zlv (ziw (zad (tVr 1) tNil)) (zaz 0) zlu (tOp (zj1 K) (tTup (zad (tC .non) tNil)) (tVr 1)) 1 [2]) "contents")
theorem zl5:type_of% (ap3 (rd_Plank_init_1.eq_1 K a E E1) D σ H):=rfl
def rd_Plank_init_2(K:FK)(a:Ad)(E E1:XE):TS:=(sFld K (tVr 0) (tVr 2) "width")
theorem zl6:type_of% (ap3 (rd_Plank_init_2.eq_1 K a E E1) D σ H):=rfl
def rd_Plank_init_3(K:FK)(a:Ad)(E E1:XE):TS:=(sFld K (tVr 0) (tC (.int 0)) "written")
theorem zl7:type_of% (ap3 (rd_Plank_init_3.eq_1 K a E E1) D σ H):=rfl
def zg2(K:FK)(a:Ad)(E:XE):TS:=(tSeq (rd_Plank_init_1 K a E E) (tSeq (rd_Plank_init_2 K a E E) (rd_Plank_init_3 K a E E)))
def rd_Plank_blocks_1(K:FK)(a:Ad)(E E1:XE):TS:=(tRet (tCB (zbf K) (zad (tFld K (tVr 0) "contents") tNil)))
theorem zj3:type_of% (ap3 (rd_Plank_blocks_1.eq_1 K a E E1) D σ H):=rfl
def zf8(K:FK)(a:Ad)(E:XE):TS:=(rd_Plank_blocks_1 K a E E)
def rd_Plank_cells_1(K:FK)(a:Ad)(E E1:XE):TS:=(tRet (tFld K (tVr 0) "width"))
theorem zks:type_of% (ap3 (rd_Plank_cells_1.eq_1 K a E E1) D σ H):=rfl
def zgn(K:FK)(a:Ad)(E:XE):TS:=(rd_Plank_cells_1 K a E E)
def rd_Plank_writings_1(K:FK)(a:Ad)(E E1:XE):TS:=(tRet (tFld K (tVr 0) "written"))
theorem ziz:type_of% (ap3 (rd_Plank_writings_1.eq_1 K a E E1) D σ H):=rfl
def ze6(K:FK)(a:Ad)(E:XE):TS:=(rd_Plank_writings_1 K a E E)
def rd_Plank_ask_for_block_1(K:FK)(a:Ad)(E E1:XE):TS:=(zqo (a "NoBlock") E (zad (tC (.str "there is no such block")) tNil))
theorem zhf:type_of% (ap3 (rd_Plank_ask_for_block_1.eq_1 K a E E1) D σ H):=rfl
def rd_Plank_ask_for_block_2(K:FK)(a:Ad)(E E1:XE):TS:=(tIfS (tNot (zen (zsu rLeA rLtA (tC (.int 0)) (tVr 1) (tCB (zbf K) (zad (tFld K (tVr 0) "contents") tNil))))) (rd_Plank_ask_for_block_1 K a E E) ze1)
theorem zhg:type_of% (ap3 (rd_Plank_ask_for_block_2.eq_1 K a E E1) D σ H):=rfl
def zcw(K:FK)(a:Ad)(E:XE):TS:=(rd_Plank_ask_for_block_2 K a E E)
def rd_Layout_init_1(K:FK)(a:Ad)(E E1:XE):TS:=(sFld K (tVr 0) (tVr 1) "name_blocks")
theorem zkt:type_of% (ap3 (rd_Layout_init_1.eq_1 K a E E1) D σ H):=rfl
def rd_Layout_init_2(K:FK)(a:Ad)(E E1:XE):TS:=(sFld K (tVr 0) (tVr 2) "record_blocks")
theorem zku:type_of% (ap3 (rd_Layout_init_2.eq_1 K a E E1) D σ H):=rfl
def rd_Layout_init_3(K:FK)(a:Ad)(E E1:XE):TS:=(sFld K (tVr 0) (tVr 3) "piece_blocks")
theorem zkv:type_of% (ap3 (rd_Layout_init_3.eq_1 K a E E1) D σ H):=rfl
def rd_Layout_init_4(K:FK)(a:Ad)(E E1:XE):TS:=(sFld K (tVr 0) (tVr 4) "width")
theorem zkw:type_of% (ap3 (rd_Layout_init_4.eq_1 K a E E1) D σ H):=rfl
def zgo(K:FK)(a:Ad)(E:XE):TS:=(tSeq (rd_Layout_init_1 K a E E) (tSeq (rd_Layout_init_2 K a E E) (tSeq (rd_Layout_init_3 K a E E) (rd_Layout_init_4 K a E E))))
def rd_Layout_counts_1(K:FK)(a:Ad)(E E1:XE):TS:=(tRet (tTup (zad (tOp (zj1 K) (tFld K (tVr 0) "name_blocks") (tFld K (tVr 0) "width")) (zad (tOp (zj1 K) (tFld K (tVr 0) "record_blocks") (tFld K (tVr 0) "width")) (zad (tOp (zj1 K) (tFld K (tVr 0) "piece_blocks") (tFld K (tVr 0) "width")) tNil)))))
theorem zjf:type_of% (ap3 (rd_Layout_counts_1.eq_1 K a E E1) D σ H):=rfl
def zfo(K:FK)(a:Ad)(E:XE):TS:=(rd_Layout_counts_1 K a E E)
def rd_Layout_blocks_ahead_of_marks_1(K:FK)(a:Ad)(E E1:XE):TS:=(tRet (tOp (zfz K) (tOp (zfz K) (tFld K (tVr 0) "name_blocks") (tFld K (tVr 0) "record_blocks")) (tFld K (tVr 0) "piece_blocks")))
theorem zfn:type_of% (ap3 (rd_Layout_blocks_ahead_of_marks_1.eq_1 K a E E1) D σ H):=rfl
def zbd(K:FK)(a:Ad)(E:XE):TS:=(rd_Layout_blocks_ahead_of_marks_1 K a E E)
def rd_Layout_place_from_1(K:FK)(a:Ad)(E E1:XE):TS:=(tRet (tTup (zad (tOp (zfz K) (tVr 1) (tOp zox (tVr 2) (tFld K (tVr 0) "width"))) (zad (tOp zf3 (tVr 2) (tFld K (tVr 0) "width")) tNil))))
theorem zh0:type_of% (ap3 (rd_Layout_place_from_1.eq_1 K a E E1) D σ H):=rfl
def zdi(K:FK)(a:Ad)(E:XE):TS:=(rd_Layout_place_from_1 K a E E)
def rd_law_cell_at_1(K:FK)(a:Ad)(E E1:XE):TS:=(tRet (tOp (rIxA K) (tVr 0) (tVr 1)))
theorem zkx:type_of% (ap3 (rd_law_cell_at_1.eq_1 K a E E1) D σ H):=rfl
def rd_law_cell_at_2(K:FK)(a:Ad)(E E1:XE):TS:=(tIfS (zen (tOp rLtA (tVr 1) (tCB (zbf K) (zad (tVr 0) tNil)))) (rd_law_cell_at_1 K a E E) ze1)
theorem zky:type_of% (ap3 (rd_law_cell_at_2.eq_1 K a E E1) D σ H):=rfl
def rd_law_cell_at_3(K:FK)(a:Ad)(E E1:XE):TS:=(tRet (tC (.int 0)))
theorem zkz:type_of% (ap3 (rd_law_cell_at_3.eq_1 K a E E1) D σ H):=rfl
def zgp(K:FK)(a:Ad)(E:XE):TS:=(tSeq (rd_law_cell_at_2 K a E E) (rd_law_cell_at_3 K a E E))
def rd_law_mill_1(K:FK)(a:Ad)(E E1:XE):TS:=(tAsg (tOp (zfz K) (tOp (zfz K) (tOp zf3 (tVr 0) (tC (.int 899809363))) (tOp (zj1 K) (tC (.int 13)) (tVr 1))) (tC (.int 5))) (zaz 2))
theorem zo2:type_of% (ap3 (rd_law_mill_1.eq_1 K a E E1) D σ H):=rfl
def rd_law_mill_2(K:FK)(a:Ad)(E E1:XE):TS:=(tRet (tOp zox (tOp zf3 (tOp (zj1 K) (tOp zf3 (tOp (zj1 K) (tVr 2) (tVr 2)) (tC (.int 899809363))) (tOp (zfz K) (tVr 2) (tVr 1))) (tC (.int 899809363))) (tC (.int 7))))
theorem zo3:type_of% (ap3 (rd_law_mill_2.eq_1 K a E E1) D σ H):=rfl
def zii(K:FK)(a:Ad)(E:XE):TS:=(tSeq (rd_law_mill_1 K a E E) (rd_law_mill_2 K a E E))
def rd_law_freed_1(K:FK)(a:Ad)(E E1:XE):TS:=(tRet (tOp (rIxA K) (tLst (zad (tC (.int 0)) (zad (tC .non) tNil))) (tOp zf3 (tVr 1) (tC (.int 2)))))
theorem zm3:type_of% (ap3 (rd_law_freed_1.eq_1 K a E E1) D σ H):=rfl
def rd_law_freed_2(K:FK)(a:Ad)(E E1:XE):TS:=(tIfS (zen (tOp (rInA K) (tVr 0) (tTup (zad (tC (.int 1)) (zad (tC (.int 2)) tNil))))) (rd_law_freed_1 K a E E) ze1)
theorem zm4:type_of% (ap3 (rd_law_freed_2.eq_1 K a E E1) D σ H):=rfl
def rd_law_freed_3(K:FK)(a:Ad)(E E1:XE):TS:=(tRet (tC .non))
theorem zm5:type_of% (ap3 (rd_law_freed_3.eq_1 K a E E1) D σ H):=rfl
def zhp(K:FK)(a:Ad)(E:XE):TS:=(tSeq (rd_law_freed_2 K a E E) (rd_law_freed_3 K a E E))
def rd_Book_init_1(K:FK)(a:Ad)(E E1:XE):TS:=(sFld K (tVr 0) (tVr 1) "ground")
theorem zm6:type_of% (ap3 (rd_Book_init_1.eq_1 K a E E1) D σ H):=rfl
def rd_Book_init_2(K:FK)(a:Ad)(E E1:XE):TS:=(sFld K (tVr 0) (tLst tNil) "made")
theorem zm7:type_of% (ap3 (rd_Book_init_2.eq_1 K a E E1) D σ H):=rfl
def rd_Book_init_3(K:FK)(a:Ad)(E E1:XE):TS:=(sFld K (tVr 0) (zlv (ziw (zad (zb5 (a "Plank") "blocks" (za3 K a) [] E (tVr 1) tNil) tNil)) (zaz 0) zlu (tLst tNil) 1 []) "made_in")
theorem zm8:type_of% (ap3 (rd_Book_init_3.eq_1 K a E E1) D σ H):=rfl
def rd_Book_init_4(K:FK)(a:Ad)(E E1:XE):TS:=(sFld K (tVr 0) zx8 "latest")
theorem zm9:type_of% (ap3 (rd_Book_init_4.eq_1 K a E E1) D σ H):=rfl
def rd_Book_init_5(K:FK)(a:Ad)(E E1:XE):TS:=(sFld K (tVr 0) zx7 "outs")
theorem zna:type_of% (ap3 (rd_Book_init_5.eq_1 K a E E1) D σ H):=rfl
def zhq(K:FK)(a:Ad)(E:XE):TS:=(tSeq (rd_Book_init_1 K a E E) (tSeq (rd_Book_init_2 K a E E) (tSeq (rd_Book_init_3 K a E E) (tSeq (rd_Book_init_4 K a E E) (rd_Book_init_5 K a E E)))))
def rd_Book_ask_for_place_1(K:FK)(a:Ad)(E E1:XE):TS:=(zqo (a "NoBlock") E (zad (tC (.str "there is no such place on the plank")) tNil))
theorem zhi:type_of% (ap3 (rd_Book_ask_for_place_1.eq_1 K a E E1) D σ H):=rfl
def rd_Book_ask_for_place_2(K:FK)(a:Ad)(E E1:XE):TS:=(tIfS (tOr (tNot (zen (zsu rLeA rLtA (tC (.int 0)) (tOp (rIxA K) (tVr 1) (tC (.int 0))) (zb5 (a "Plank") "blocks" (za3 K a) [] E (tFld K (tVr 0) "ground") tNil)))) (tNot (zen (zsu rLeA rLtA (tC (.int 0)) (tOp (rIxA K) (tVr 1) (tC (.int 1))) (zb5 (a "Plank") "cells" (zbv K a) [] E (tFld K (tVr 0) "ground") tNil))))) (rd_Book_ask_for_place_1 K a E E) ze1)
theorem zhj:type_of% (ap3 (rd_Book_ask_for_place_2.eq_1 K a E E1) D σ H):=rfl
def zc8(K:FK)(a:Ad)(E:XE):TS:=(rd_Book_ask_for_place_2 K a E E)
def rd_Hold_outcome_1(K:FK)(a:Ad)(E E1:XE):TS:=(tAsg (tCB (zhl K) (zad (tVr 2) tNil)) (zaz 3))
theorem zfd:type_of% (ap3 (rd_Hold_outcome_1.eq_1 K a E E1) D σ H):=rfl
def rd_Hold_outcome_2(K:FK)(a:Ad)(E E1:XE):TS:=(tAsg (tLst tNil) (zaz 4))
theorem zfe:type_of% (ap3 (rd_Hold_outcome_2.eq_1 K a E E1) D σ H):=rfl
def rd_Hold_outcome_3(K:FK)(a:Ad)(E E1:XE):TS:=(tAsg (tLst tNil) (zaz 5))
theorem zff:type_of% (ap3 (rd_Hold_outcome_3.eq_1 K a E E1) D σ H):=rfl
def rd_Hold_outcome_4(K:FK)(a:Ad)(E E1:XE):TS:=(tAsg (zb5 (a "Hold") "lack_of" (zca K a) [] E (tVr 0) (zad (tVr 6) (zad (tVr 3) tNil))) (zaz 7))
theorem zfg:type_of% (ap3 (rd_Hold_outcome_4.eq_1 K a E E1) D σ H):=rfl
def rd_Hold_outcome_5(K:FK)(a:Ad)(E E1:XE):TS:=(ztl (tVr 3) (tVr 6) (tC (.bl true)))
theorem zfh:type_of% (ap3 (rd_Hold_outcome_5.eq_1 K a E E1) D σ H):=rfl
def rd_Hold_outcome_6(K:FK)(a:Ad)(E E1:XE):TS:=(zi7 (tBM K "list" zhb (tVr 4) (zad (tVr 6) tNil)))
theorem zfi:type_of% (ap3 (rd_Hold_outcome_6.eq_1 K a E E1) D σ H):=rfl
def rd_Hold_outcome_7(K:FK)(a:Ad)(E E1:XE):TS:=(zi7 (tBM K "list" zhb (tVr 5) (zad (tTup (zad (tVr 6) (zad (tVr 7) tNil))) tNil)))
theorem zfj:type_of% (ap3 (rd_Hold_outcome_7.eq_1 K a E E1) D σ H):=rfl
def rd_Hold_outcome_8(K:FK)(a:Ad)(E E1:XE):TS:=(tIfS (zen (tOp rIsN (tVr 7) (tC .non))) (tSeq (rd_Hold_outcome_5 K a E E) (rd_Hold_outcome_6 K a E E)) (rd_Hold_outcome_7 K a E E))
theorem zfk:type_of% (ap3 (rd_Hold_outcome_8.eq_1 K a E E1) D σ H):=rfl
def rd_Hold_outcome_9(K:FK)(a:Ad)(E E1:XE):TS:=(tIfS (tAnd (tB (zkg (tVr 6) (tFld K (tVr 0) "outs"))) (tB (zkg (tVr 6) (tVr 3)))) (tSeq (rd_Hold_outcome_4 K a E E) (rd_Hold_outcome_8 K a E E)) ze1)
theorem zfl:type_of% (ap3 (rd_Hold_outcome_9.eq_1 K a E E1) D σ H):=rfl
def rd_Hold_outcome_10(K:FK)(a:Ad)(E E1:XE):TS:=(tFor (iSeq K (tOp (rIxA K) (tFld K (tVr 0) "made_in") (tVr 1))) (zaz 6) (rd_Hold_outcome_9 K a E E))
theorem zer:type_of% (ap3 (rd_Hold_outcome_10.eq_1 K a E E1) D σ H):=rfl
def rd_Hold_outcome_11(K:FK)(a:Ad)(E E1:XE):TS:=(tRet (tTup (zad (tVr 4) (zad (tVr 5) tNil))))
theorem zes:type_of% (ap3 (rd_Hold_outcome_11.eq_1 K a E E1) D σ H):=rfl
def zf9(K:FK)(a:Ad)(E:XE):TS:=(tSeq (rd_Hold_outcome_1 K a E E) (tSeq (rd_Hold_outcome_2 K a E E) (tSeq (rd_Hold_outcome_3 K a E E) (tSeq (rd_Hold_outcome_10 K a E E) (rd_Hold_outcome_11 K a E E)))))
def rd_Plank_read_1(K:FK)(a:Ad)(E E1:XE):TS:=(zi7 (zb5 (a "Plank") "ask_for_block" (zao K a) [] E (tVr 0) (zad (tVr 1) tNil)))
theorem zl8:type_of% (ap3 (rd_Plank_read_1.eq_1 K a E E1) D σ H):=rfl
def rd_Plank_read_2(K:FK)(a:Ad)(E E1:XE):TS:=(tRet (tCB (zeo K) (zad (tOp (rIxA K) (tFld K (tVr 0) "contents") (tVr 1)) tNil)))
theorem zl9:type_of% (ap3 (rd_Plank_read_2.eq_1 K a E E1) D σ H):=rfl
def zg3(K:FK)(a:Ad)(E:XE):TS:=(tSeq (rd_Plank_read_1 K a E E) (rd_Plank_read_2 K a E E))
def rd_Plank_write_1(K:FK)(a:Ad)(E E1:XE):TS:=(zi7 (zb5 (a "Plank") "ask_for_block" (zao K a) [] E (tVr 0) (zad (tVr 1) tNil)))
theorem zk0:type_of% (ap3 (rd_Plank_write_1.eq_1 K a E E1) D σ H):=rfl
def rd_Plank_write_2(K:FK)(a:Ad)(E E1:XE):TS:=(zqo (a "NoBlock") E (zad (tC (.str "the list is not as long as a block")) tNil))
theorem zk1:type_of% (ap3 (rd_Plank_write_2.eq_1 K a E E1) D σ H):=rfl
def rd_Plank_write_3(K:FK)(a:Ad)(E E1:XE):TS:=(tIfS (zen (tOp (rNeA K) (tCB (zbf K) (zad (tVr 2) tNil)) (tFld K (tVr 0) "width"))) (rd_Plank_write_2 K a E E) ze1)
theorem zk2:type_of% (ap3 (rd_Plank_write_3.eq_1 K a E E1) D σ H):=rfl
def rd_Plank_write_4(K:FK)(a:Ad)(E E1:XE):TS:=(tAsg (tCB (ze4 K) (zad (tVr 2) tNil)) (gSub (tFld K (tVr 0) "contents") (tVr 1) zaaq))
theorem zk3:type_of% (ap3 (rd_Plank_write_4.eq_1 K a E E1) D σ H):=rfl
def rd_Plank_write_5(K:FK)(a:Ad)(E E1:XE):TS:=(zwr K (tVr 0) (tC (.int 1)) rAdd "written")
theorem zk4:type_of% (ap3 (rd_Plank_write_5.eq_1 K a E E1) D σ H):=rfl
def zgq(K:FK)(a:Ad)(E:XE):TS:=(tSeq (rd_Plank_write_1 K a E E) (tSeq (rd_Plank_write_3 K a E E) (tSeq (rd_Plank_write_4 K a E E) (rd_Plank_write_5 K a E E))))
def rd_Layout_name_at_1(K:FK)(a:Ad)(E E1:XE):TS:=(tRet (zb5 (a "Layout") "place_from" (zam K a) [] E (tVr 0) (zad (tC (.int 0)) (zad (tVr 1) tNil))))
theorem zi0:type_of% (ap3 (rd_Layout_name_at_1.eq_1 K a E E1) D σ H):=rfl
def ze7(K:FK)(a:Ad)(E:XE):TS:=(rd_Layout_name_at_1 K a E E)
def rd_Layout_record_at_1(K:FK)(a:Ad)(E E1:XE):TS:=(tRet (zb5 (a "Layout") "place_from" (zam K a) [] E (tVr 0) (zad (tFld K (tVr 0) "name_blocks") (zad (tVr 1) tNil))))
theorem zh7:type_of% (ap3 (rd_Layout_record_at_1.eq_1 K a E E1) D σ H):=rfl
def zdw(K:FK)(a:Ad)(E:XE):TS:=(rd_Layout_record_at_1 K a E E)
def rd_Layout_piece_at_1(K:FK)(a:Ad)(E E1:XE):TS:=(tRet (zb5 (a "Layout") "place_from" (zam K a) [] E (tVr 0) (zad (tOp (zfz K) (tFld K (tVr 0) "name_blocks") (tFld K (tVr 0) "record_blocks")) (zad (tVr 1) tNil))))
theorem zij:type_of% (ap3 (rd_Layout_piece_at_1.eq_1 K a E E1) D σ H):=rfl
def zeg(K:FK)(a:Ad)(E:XE):TS:=(rd_Layout_piece_at_1 K a E E)
def rd_Layout_record_mark_1(K:FK)(a:Ad)(E E1:XE):TS:=(tRet (zb5 (a "Layout") "place_from" (zam K a) [] E (tVr 0) (zad (zb5 (a "Layout") "blocks_ahead_of_marks" (zal K a) [] E (tVr 0) tNil) (zad (tVr 1) tNil))))
theorem zhk:type_of% (ap3 (rd_Layout_record_mark_1.eq_1 K a E E1) D σ H):=rfl
def zc9(K:FK)(a:Ad)(E:XE):TS:=(rd_Layout_record_mark_1 K a E E)
def rd_Layout_piece_mark_1(K:FK)(a:Ad)(E E1:XE):TS:=(tRet (zb5 (a "Layout") "place_from" (zam K a) [] E (tVr 0) (zad (tOp (zfz K) (zb5 (a "Layout") "blocks_ahead_of_marks" (zal K a) [] E (tVr 0) tNil) (tFld K (tVr 0) "record_blocks")) (zad (tVr 1) tNil))))
theorem zh1:type_of% (ap3 (rd_Layout_piece_mark_1.eq_1 K a E E1) D σ H):=rfl
def zdj(K:FK)(a:Ad)(E:XE):TS:=(rd_Layout_piece_mark_1 K a E E)
def rd_Layout_blocks_1(K:FK)(a:Ad)(E E1:XE):TS:=(tRet (tOp (zfz K) (tOp (zfz K) (zb5 (a "Layout") "blocks_ahead_of_marks" (zal K a) [] E (tVr 0) tNil) (tFld K (tVr 0) "record_blocks")) (tFld K (tVr 0) "piece_blocks")))
theorem zjg:type_of% (ap3 (rd_Layout_blocks_1.eq_1 K a E E1) D σ H):=rfl
def zfp(K:FK)(a:Ad)(E:XE):TS:=(rd_Layout_blocks_1 K a E E)
def rd_law_taken_1(K:FK)(a:Ad)(E E1:XE):TS:=(tAsg (zb5 (a "Layout") "counts" (zan K a) [] E (tVr 0) tNil) (zaz 3))
theorem znb:type_of% (ap3 (rd_law_taken_1.eq_1 K a E E1) D σ H):=rfl
def rd_law_taken_2(K:FK)(a:Ad)(E E1:XE):TS:=(tRet (tTup (zad (tOp (zj1 K) (tOp (rIxA K) (tC (.str "qwertyuiop")) (tOp zf3 (tVr 2) (tC (.int 10)))) (tOp (zfz K) (tC (.int 1)) (tOp zf3 (tOp zox (tVr 2) (tC (.int 10))) (tC (.int 8))))) (zad (tOp zf3 (tOp zox (tVr 2) (tC (.int 80))) (tOp (rIxA K) (tVr 3) (tC (.int 1)))) tNil))))
theorem znc:type_of% (ap3 (rd_law_taken_2.eq_1 K a E E1) D σ H):=rfl
def rd_law_taken_3(K:FK)(a:Ad)(E E1:XE):TS:=(tIfS (zen (tOp (rEqA K) (tVr 1) (tC (.int 0)))) (rd_law_taken_2 K a E E) ze1)
theorem znd:type_of% (ap3 (rd_law_taken_3.eq_1 K a E E1) D σ H):=rfl
def rd_law_taken_4(K:FK)(a:Ad)(E E1:XE):TS:=(tRet (tC (.int 1)))
theorem zne:type_of% (ap3 (rd_law_taken_4.eq_1 K a E E1) D σ H):=rfl
def rd_law_taken_5(K:FK)(a:Ad)(E E1:XE):TS:=(tIfS (zen (tOp rLtA (tVr 1) (tC (.int 3)))) (rd_law_taken_4 K a E E) ze1)
theorem znf:type_of% (ap3 (rd_law_taken_5.eq_1 K a E E1) D σ H):=rfl
def rd_law_taken_6(K:FK)(a:Ad)(E E1:XE):TS:=(tRet (tTup (zad (tOp (zfz K) (tC (.int 1)) (tOp zf3 (tVr 2) (tC (.int 4)))) (zad (tTup (zad (tOp zf3 (tOp zox (tVr 2) (tC (.int 4))) (tOp (rIxA K) (tVr 3) (tC (.int 2)))) tNil)) tNil))))
theorem zng:type_of% (ap3 (rd_law_taken_6.eq_1 K a E E1) D σ H):=rfl
def rd_law_taken_7(K:FK)(a:Ad)(E E1:XE):TS:=(tIfS (zen (tOp (rEqA K) (tVr 1) (tC (.int 3)))) (rd_law_taken_6 K a E E) ze1)
theorem znh:type_of% (ap3 (rd_law_taken_7.eq_1 K a E E1) D σ H):=rfl
def rd_law_taken_8(K:FK)(a:Ad)(E E1:XE):TS:=(tRet (tSl (rSlA K) (tC (.str "Some text ~")) zth (zab1 (tOp (zfz K) (tC (.int 1)) (tOp zf3 (tVr 2) (tC (.int 11)))))))
theorem zni:type_of% (ap3 (rd_law_taken_8.eq_1 K a E E1) D σ H):=rfl
def zhr(K:FK)(a:Ad)(E:XE):TS:=(tSeq (rd_law_taken_1 K a E E) (tSeq (rd_law_taken_3 K a E E) (tSeq (rd_law_taken_5 K a E E) (tSeq (rd_law_taken_7 K a E E) (rd_law_taken_8 K a E E)))))
def rd_Book_newest_1(K:FK)(a:Ad)(E E1:XE):TS:=(zi7 (zb5 (a "Hold") "ask_for_place" (za0 K a) [] E (tVr 0) (zad (tVr 1) tNil)))
theorem zk5:type_of% (ap3 (rd_Book_newest_1.eq_1 K a E E1) D σ H):=rfl
def rd_Book_newest_2(K:FK)(a:Ad)(E E1:XE):TS:=(tRet (zaah (tFld K (tVr 0) "latest") (tVr 1)))
theorem zk6:type_of% (ap3 (rd_Book_newest_2.eq_1 K a E E1) D σ H):=rfl
def zgr(K:FK)(a:Ad)(E:XE):TS:=(tSeq (rd_Book_newest_1 K a E E) (rd_Book_newest_2 K a E E))
def rd_Hold_write_1(K:FK)(a:Ad)(E E1:XE):TS:=(tAsg (zb5 (a "Plank") "read" (zbm K a) [] E (tFld K (tVr 0) "ground") (zad (tVr 1) tNil)) (zaz 2))
theorem zeh:type_of% (ap3 (rd_Hold_write_1.eq_1 K a E E1) D σ H):=rfl
def rd_Hold_write_2(K:FK)(a:Ad)(E E1:XE):TS:=(tAsg (zb5 (a "Hold") "outcome" (zcb K a) [] E (tVr 0) (zad (tVr 1) (zad zx7 tNil))) (zaz 3))
theorem zei:type_of% (ap3 (rd_Hold_write_2.eq_1 K a E E1) D σ H):=rfl
def rd_Hold_write_3(K:FK)(a:Ad)(E E1:XE):TS:=(ztl (tFld K (tVr 0) "outs") (tVr 4) (tC (.bl true)))
theorem zej:type_of% (ap3 (rd_Hold_write_3.eq_1 K a E E1) D σ H):=rfl
def rd_Hold_write_4(K:FK)(a:Ad)(E E1:XE):TS:=(tFor (iSeq K (tOp (rIxA K) (tVr 3) (tC (.int 0)))) (zaz 4) (rd_Hold_write_3 K a E E))
theorem zek:type_of% (ap3 (rd_Hold_write_4.eq_1 K a E E1) D σ H):=rfl
def rd_Hold_write_5(K:FK)(a:Ad)(E E1:XE):TS:=(zi7 (zb5 (a "Plank") "write" (zbw K a) [] E (tFld K (tVr 0) "ground") (zad (tVr 1) (zad (zb5 (a "Hold") "laid_over" (zbs K a) [] E (tVr 0) (zad (tVr 2) (zad (tVr 1) tNil))) tNil))))
theorem zel:type_of% (ap3 (rd_Hold_write_5.eq_1 K a E E1) D σ H):=rfl
def rd_Hold_write_6(K:FK)(a:Ad)(E E1:XE):TS:=(tRet (tVr 3))
theorem zem:type_of% (ap3 (rd_Hold_write_6.eq_1 K a E E1) D σ H):=rfl
def zg4(K:FK)(a:Ad)(E:XE):TS:=(tSeq (rd_Hold_write_1 K a E E) (tSeq (rd_Hold_write_2 K a E E) (tSeq (rd_Hold_write_4 K a E E) (tSeq (rd_Hold_write_5 K a E E) (rd_Hold_write_6 K a E E)))))
def rd_Layout_plank_1(K:FK)(a:Ad)(E E1:XE):TS:=(tRet (zws (a "Plank") (zc1 K a) [] E (zad (zb5 (a "Layout") "blocks" (zb1 K a) [] E (tVr 0) tNil) (zad (tFld K (tVr 0) "width") tNil))))
theorem zj4:type_of% (ap3 (rd_Layout_plank_1.eq_1 K a E E1) D σ H):=rfl
def zga(K:FK)(a:Ad)(E:XE):TS:=(rd_Layout_plank_1 K a E E)
def rd_law_place_1(K:FK)(a:Ad)(E E1:XE):TS:=(tRet (zb5 (a "Layout") "name_at" (za4 K a) [] E (tVr 0) (zad (tVr 2) tNil)))
theorem znj:type_of% (ap3 (rd_law_place_1.eq_1 K a E E1) D σ H):=rfl
def rd_law_place_2(K:FK)(a:Ad)(E E1:XE):TS:=(tIfS (zen (tOp (rEqA K) (tVr 1) (tC (.int 0)))) (rd_law_place_1 K a E E) ze1)
theorem znk:type_of% (ap3 (rd_law_place_2.eq_1 K a E E1) D σ H):=rfl
def rd_law_place_3(K:FK)(a:Ad)(E E1:XE):TS:=(tRet (zb5 (a "Layout") "record_mark" (zau K a) [] E (tVr 0) (zad (tVr 2) tNil)))
theorem znl:type_of% (ap3 (rd_law_place_3.eq_1 K a E E1) D σ H):=rfl
def rd_law_place_4(K:FK)(a:Ad)(E E1:XE):TS:=(tIfS (zen (tOp (rEqA K) (tVr 1) (tC (.int 1)))) (rd_law_place_3 K a E E) ze1)
theorem znm:type_of% (ap3 (rd_law_place_4.eq_1 K a E E1) D σ H):=rfl
def rd_law_place_5(K:FK)(a:Ad)(E E1:XE):TS:=(tRet (zb5 (a "Layout") "piece_mark" (zaw K a) [] E (tVr 0) (zad (tVr 2) tNil)))
theorem znn:type_of% (ap3 (rd_law_place_5.eq_1 K a E E1) D σ H):=rfl
def rd_law_place_6(K:FK)(a:Ad)(E E1:XE):TS:=(tIfS (zen (tOp (rEqA K) (tVr 1) (tC (.int 2)))) (rd_law_place_5 K a E E) ze1)
theorem zno:type_of% (ap3 (rd_law_place_6.eq_1 K a E E1) D σ H):=rfl
def rd_law_place_7(K:FK)(a:Ad)(E E1:XE):TS:=(tRet (zb5 (a "Layout") "record_at" (zbb K a) [] E (tVr 0) (zad (tVr 2) tNil)))
theorem znp:type_of% (ap3 (rd_law_place_7.eq_1 K a E E1) D σ H):=rfl
def rd_law_place_8(K:FK)(a:Ad)(E E1:XE):TS:=(tIfS (zen (tOp (rEqA K) (tVr 1) (tC (.int 3)))) (rd_law_place_7 K a E E) ze1)
theorem znq:type_of% (ap3 (rd_law_place_8.eq_1 K a E E1) D σ H):=rfl
def rd_law_place_9(K:FK)(a:Ad)(E E1:XE):TS:=(tRet (zb5 (a "Layout") "piece_at" (zbi K a) [] E (tVr 0) (zad (tVr 2) tNil)))
theorem znr:type_of% (ap3 (rd_law_place_9.eq_1 K a E E1) D σ H):=rfl
def zhs(K:FK)(a:Ad)(E:XE):TS:=(tSeq (rd_law_place_2 K a E E) (tSeq (rd_law_place_4 K a E E) (tSeq (rd_law_place_6 K a E E) (tSeq (rd_law_place_8 K a E E) (rd_law_place_9 K a E E)))))
def rd_Book_change_1(K:FK)(a:Ad)(E E1:XE):TS:=(tAsg (zb5 (a "Hold") "newest" (zbx K a) [] E (tVr 0) (zad (tVr 1) tNil)) (zaz 4))
theorem zk7:type_of% (ap3 (rd_Book_change_1.eq_1 K a E E1) D σ H):=rfl
def rd_Book_change_2(K:FK)(a:Ad)(E E1:XE):TS:=(zi7 (zb5 (a "Hold") "ask_for_changes" (zay K a) [] E (tVr 0) (zad (tVr 3) tNil)))
theorem zk8:type_of% (ap3 (rd_Book_change_2.eq_1 K a E E1) D σ H):=rfl
def rd_Book_change_3(K:FK)(a:Ad)(E E1:XE):TS:=(tAsg (tCB (zbf K) (zad (tFld K (tVr 0) "made") tNil)) (zaz 5))
theorem zk9:type_of% (ap3 (rd_Book_change_3.eq_1 K a E E1) D σ H):=rfl
def rd_Book_change_4(K:FK)(a:Ad)(E E1:XE):TS:=(zi7 (tBM K "list" zhb (tFld K (tVr 0) "made") (zad (zws (a "Change") (zcm K a) [] E (zad (tVr 1) (zad (tVr 2) (zad (zdl (zc3 K a) [] E (zad (tVr 3) (zad (tVr 4) tNil))) tNil)))) tNil)))
theorem zla:type_of% (ap3 (rd_Book_change_4.eq_1 K a E E1) D σ H):=rfl
def rd_Book_change_5(K:FK)(a:Ad)(E E1:XE):TS:=(zi7 (tBM K "list" zhb (tOp (rIxA K) (tFld K (tVr 0) "made_in") (tOp (rIxA K) (tVr 1) (tC (.int 0)))) (zad (tVr 5) tNil)))
theorem zlb:type_of% (ap3 (rd_Book_change_5.eq_1 K a E E1) D σ H):=rfl
def rd_Book_change_6(K:FK)(a:Ad)(E E1:XE):TS:=(ztl (tFld K (tVr 0) "latest") (tVr 1) (tVr 5))
theorem zlc:type_of% (ap3 (rd_Book_change_6.eq_1 K a E E1) D σ H):=rfl
def rd_Book_change_7(K:FK)(a:Ad)(E E1:XE):TS:=(tRet (tVr 5))
theorem zld:type_of% (ap3 (rd_Book_change_7.eq_1 K a E E1) D σ H):=rfl
def zgs(K:FK)(a:Ad)(E:XE):TS:=(tSeq (rd_Book_change_1 K a E E) (tSeq (rd_Book_change_2 K a E E) (tSeq (rd_Book_change_3 K a E E) (tSeq (rd_Book_change_4 K a E E) (tSeq (rd_Book_change_5 K a E E) (tSeq (rd_Book_change_6 K a E E) (rd_Book_change_7 K a E E)))))))
def rd_Book_in_hand_1(K:FK)(a:Ad)(E E1:XE):TS:=(tAsg (zb5 (a "Hold") "newest" (zbx K a) [] E (tVr 0) (zad (tVr 1) tNil)) (zaz 2))
theorem zj5:type_of% (ap3 (rd_Book_in_hand_1.eq_1 K a E E1) D σ H):=rfl
def rd_Book_in_hand_2(K:FK)(a:Ad)(E E1:XE):TS:=(tRet (tOp (rIxA K) (zb5 (a "Plank") "read" (zbm K a) [] E (tFld K (tVr 0) "ground") (zad (tOp (rIxA K) (tVr 1) (tC (.int 0))) tNil)) (tOp (rIxA K) (tVr 1) (tC (.int 1)))))
theorem zj6:type_of% (ap3 (rd_Book_in_hand_2.eq_1 K a E E1) D σ H):=rfl
def rd_Book_in_hand_3(K:FK)(a:Ad)(E E1:XE):TS:=(tIfS (zen (tOp rIsN (tVr 2) (tC .non))) (rd_Book_in_hand_2 K a E E) ze1)
theorem zj7:type_of% (ap3 (rd_Book_in_hand_3.eq_1 K a E E1) D σ H):=rfl
def rd_Book_in_hand_4(K:FK)(a:Ad)(E E1:XE):TS:=(tRet (tFld K (tOp (rIxA K) (tFld K (tVr 0) "made") (tVr 2)) "value"))
theorem zj8:type_of% (ap3 (rd_Book_in_hand_4.eq_1 K a E E1) D σ H):=rfl
def zgb(K:FK)(a:Ad)(E:XE):TS:=(tSeq (rd_Book_in_hand_1 K a E E) (tSeq (rd_Book_in_hand_3 K a E E) (rd_Book_in_hand_4 K a E E)))
def rd_law_laid_1(K:FK)(a:Ad)(E E1:XE):TS:=(tAsg (zb5 (a "Layout") "counts" (zan K a) [] E (tVr 0) tNil) (zaz 3))
theorem zo4:type_of% (ap3 (rd_law_laid_1.eq_1 K a E E1) D σ H):=rfl
def rd_law_laid_2(K:FK)(a:Ad)(E E1:XE):TS:=(tAsg (zdl (za5 K a) [] E (zad (tVr 2) (zad (tC (.int 1)) tNil))) (zaz 4))
theorem zo5:type_of% (ap3 (rd_law_laid_2.eq_1 K a E E1) D σ H):=rfl
def rd_law_laid_3(K:FK)(a:Ad)(E E1:XE):TS:=(tAsg (tOp (rIxA K) (tVr 3) (tOp (rIxA K) (tLst (zad (tC (.int 0)) (zad (tC (.int 1)) (zad (tC (.int 2)) (zad (tC (.int 1)) (zad (tC (.int 2)) tNil)))))) (tVr 5))) (zaz 6))
theorem zo6:type_of% (ap3 (rd_law_laid_3.eq_1 K a E E1) D σ H):=rfl
def rd_law_laid_4(K:FK)(a:Ad)(E E1:XE):TS:=(tAsg (tOp zf3 (zdl (zat K a) [] E (zad (tVr 4) (zad (tOp (zfz K) (tC (.int 10)) (tVr 5)) tNil))) (tOp (zfz K) (tVr 6) (tC (.int 1)))) (zaz 7))
theorem zo7:type_of% (ap3 (rd_law_laid_4.eq_1 K a E E1) D σ H):=rfl
def rd_law_laid_5(K:FK)(a:Ad)(E E1:XE):TS:=(tAsg (tVr 6) (zaz 7))
theorem zo8:type_of% (ap3 (rd_law_laid_5.eq_1 K a E E1) D σ H):=rfl
def rd_law_laid_6(K:FK)(a:Ad)(E E1:XE):TS:=(tIfS (tAnd (zen (tOp (rEqA K) (tOp zf3 (zdl (zat K a) [] E (zad (tVr 4) (zad (tC (.int 1)) tNil))) (tC (.int 2))) (tC (.int 0)))) (zen (tOp rLtA (tVr 5) (tC (.int 3))))) (rd_law_laid_5 K a E E) ze1)
theorem zo9:type_of% (ap3 (rd_law_laid_6.eq_1 K a E E1) D σ H):=rfl
def rd_law_laid_7(K:FK)(a:Ad)(E E1:XE):TS:=(tAsg (zdl (zb2 K a) [] E (zad (tVr 0) (zad (tVr 5) (zad (tVr 8) tNil)))) (gTup K 2 (zyw (zaz 9) (zyw (zaz 10) gNil))))
theorem zpa:type_of% (ap3 (rd_law_laid_7.eq_1 K a E E1) D σ H):=rfl
def rd_law_laid_8(K:FK)(a:Ad)(E E1:XE):TS:=(tAsg (zdl (zco K a) [] E (zad (tVr 0) (zad (tVr 5) (zad (zdl (zat K a) [] E (zad (tVr 4) (zad (tOp (zfz K) (tOp (zfz K) (tC (.int 20)) (tOp (zj1 K) (tC (.int 7)) (tVr 5))) (tVr 8)) tNil))) tNil)))) (gSub (tOp (rIxA K) (tVr 1) (tVr 9)) (tVr 10) zaaq))
theorem zpb:type_of% (ap3 (rd_law_laid_8.eq_1 K a E E1) D σ H):=rfl
def rd_law_laid_9(K:FK)(a:Ad)(E E1:XE):TS:=(tFor (ziw (zad (tVr 7) tNil)) (zaz 8) (tSeq (rd_law_laid_7 K a E E) (rd_law_laid_8 K a E E)))
theorem zpc:type_of% (ap3 (rd_law_laid_9.eq_1 K a E E1) D σ H):=rfl
def rd_law_laid_10(K:FK)(a:Ad)(E E1:XE):TS:=(tFor (ziw (zad (tC (.int 5)) tNil)) (zaz 5) (tSeq (rd_law_laid_3 K a E E) (tSeq (rd_law_laid_4 K a E E) (tSeq (rd_law_laid_6 K a E E) (rd_law_laid_9 K a E E)))))
theorem zns:type_of% (ap3 (rd_law_laid_10.eq_1 K a E E1) D σ H):=rfl
def zik(K:FK)(a:Ad)(E:XE):TS:=(tSeq (rd_law_laid_1 K a E E) (tSeq (rd_law_laid_2 K a E E) (rd_law_laid_10 K a E E)))
def rd_law_lowest_1(K:FK)(a:Ad)(E E1:XE):TS:=(tAsg (zhy (tVr 1) (zdl (zb2 K a) [] E (zad (tVr 0) (zad (tVr 2) (zad (tVr 3) tNil))))) (zaz 4))
theorem zma:type_of% (ap3 (rd_law_lowest_1.eq_1 K a E E1) D σ H):=rfl
def rd_law_lowest_2(K:FK)(a:Ad)(E E1:XE):TS:=(tRet (tVr 3))
theorem zmb:type_of% (ap3 (rd_law_lowest_2.eq_1 K a E E1) D σ H):=rfl
def rd_law_lowest_3(K:FK)(a:Ad)(E E1:XE):TS:=(tIfS (tOr (zen (tOp rIsN (tVr 4) (tC .non))) (tAnd (zen (tOp rGtA (tVr 2) (tC (.int 0)))) (zen (tOp (rEqA K) (tVr 4) (tC (.int 0)))))) (rd_law_lowest_2 K a E E) ze1)
theorem zmc:type_of% (ap3 (rd_law_lowest_3.eq_1 K a E E1) D σ H):=rfl
def rd_law_lowest_4(K:FK)(a:Ad)(E E1:XE):TS:=(tFor (ziw (zad (tOp (rIxA K) (zb5 (a "Layout") "counts" (zan K a) [] E (tVr 0) tNil) (tVr 2)) tNil)) (zaz 3) (tSeq (rd_law_lowest_1 K a E E) (rd_law_lowest_3 K a E E)))
theorem zmd:type_of% (ap3 (rd_law_lowest_4.eq_1 K a E E1) D σ H):=rfl
def rd_law_lowest_5(K:FK)(a:Ad)(E E1:XE):TS:=(tRet (tUn zag1 (tC (.int 1))))
theorem zme:type_of% (ap3 (rd_law_lowest_5.eq_1 K a E E1) D σ H):=rfl
def zg5(K:FK)(a:Ad)(E:XE):TS:=(tSeq (rd_law_lowest_4 K a E E) (rd_law_lowest_5 K a E E))
def rd_law_write_1(K:FK)(a:Ad)(E E1:XE):TS:=(zi7 (zb5 (a "Hold") "write" (zc4 K a) [] E (tVr 0) (zad (tVr 2) tNil)))
theorem znt:type_of% (ap3 (rd_law_write_1.eq_1 K a E E1) D σ H):=rfl
def rd_law_write_2(K:FK)(a:Ad)(E E1:XE):TS:=(ztl (tVr 1) (tC (.str "writings")) (tOp (zfz K) (zhy (tVr 1) (tC (.str "writings"))) (tC (.int 1))))
theorem znu:type_of% (ap3 (rd_law_write_2.eq_1 K a E E1) D σ H):=rfl
def rd_law_write_3(K:FK)(a:Ad)(E E1:XE):TS:=(ztl (tVr 1) (tC (.str "waits")) (zlv (iSeq K (zhy (tVr 1) (tC (.str "waits")))) (zaz 0) (zen (tOp (rNeA K) (tOp (rIxA K) (tOp (rIxA K) (tVr 0) (tC (.int 1))) (tC (.int 0))) (tVr 1))) (tVr 0) 1 [2]))
theorem znv:type_of% (ap3 (rd_law_write_3.eq_1 K a E E1) D σ H):=rfl
def rd_law_write_4(K:FK)(a:Ad)(E E1:XE):TS:=(tAsg (zhy (zhy (tVr 1) (tC (.str "hand"))) (tTup (zad (tVr 2) (zad (tVr 3) tNil)))) (gSub (tOp (rIxA K) (zhy (tVr 1) (tC (.str "rows"))) (tVr 2)) (tVr 3) zaaq))
theorem znw:type_of% (ap3 (rd_law_write_4.eq_1 K a E E1) D σ H):=rfl
def rd_law_write_5(K:FK)(a:Ad)(E E1:XE):TS:=(tFor (ziw (zad (tCB (zbf K) (zad (tOp (rIxA K) (zhy (tVr 1) (tC (.str "rows"))) (tVr 2)) tNil)) tNil)) (zaz 3) (rd_law_write_4 K a E E))
theorem znx:type_of% (ap3 (rd_law_write_5.eq_1 K a E E1) D σ H):=rfl
def zht(K:FK)(a:Ad)(E:XE):TS:=(tSeq (rd_law_write_1 K a E E) (tSeq (rd_law_write_2 K a E E) (tSeq (rd_law_write_3 K a E E) (rd_law_write_5 K a E E))))
def rd_lowest_with_1(K:FK)(a:Ad)(E E1:XE):TS:=(tRet (tVr 3))
theorem zle:type_of% (ap3 (rd_lowest_with_1.eq_1 K a E E1) D σ H):=rfl
def rd_lowest_with_2(K:FK)(a:Ad)(E E1:XE):TS:=(tIfS (zen (tOp (rInB K) (zb5 (a "Hold") "in_hand" (zbl K a) [] E (tVr 0) (zad (tVr 4) tNil)) (tVr 2))) (rd_lowest_with_1 K a E E) ze1)
theorem zlf:type_of% (ap3 (rd_lowest_with_2.eq_1 K a E E1) D σ H):=rfl
def rd_lowest_with_3(K:FK)(a:Ad)(E E1:XE):TS:=(tFor (zafq K (zad (tVr 1) tNil)) (gTup K 2 (zyw (zaz 3) (zyw (zaz 4) gNil))) (rd_lowest_with_2 K a E E))
theorem zlg:type_of% (ap3 (rd_lowest_with_3.eq_1 K a E E1) D σ H):=rfl
def rd_lowest_with_4(K:FK)(a:Ad)(E E1:XE):TS:=(zqo (a "NoRoom") E (zad (tC (.str "nothing of what is to be taken is free")) tNil))
theorem zlh:type_of% (ap3 (rd_lowest_with_4.eq_1 K a E E1) D σ H):=rfl
def zgt(K:FK)(a:Ad)(E:XE):TS:=(tSeq (rd_lowest_with_3 K a E E) (rd_lowest_with_4 K a E E))
def rd_law_change_1(K:FK)(a:Ad)(E E1:XE):TS:=(tAsg (tOp zf3 (zdl (zat K a) [] E (zad (tVr 3) (zad (tC (.int 1)) tNil))) (tC (.int 5))) (zaz 4))
theorem zmf:type_of% (ap3 (rd_law_change_1.eq_1 K a E E1) D σ H):=rfl
def rd_law_change_2(K:FK)(a:Ad)(E E1:XE):TS:=(tAsg (tOp (rIxA K) (zb5 (a "Layout") "counts" (zan K a) [] E (tVr 0) tNil) (tOp (rIxA K) (tLst (zad (tC (.int 0)) (zad (tC (.int 1)) (zad (tC (.int 2)) (zad (tC (.int 1)) (zad (tC (.int 2)) tNil)))))) (tVr 4))) (zaz 5))
theorem zmg:type_of% (ap3 (rd_law_change_2.eq_1 K a E E1) D σ H):=rfl
def rd_law_change_3(K:FK)(a:Ad)(E E1:XE):TS:=(tAsg (tOp zf3 (zdl (zat K a) [] E (zad (tVr 3) (zad (tC (.int 2)) tNil))) (tVr 5)) (zaz 6))
theorem zmh:type_of% (ap3 (rd_law_change_3.eq_1 K a E E1) D σ H):=rfl
def rd_law_change_4(K:FK)(a:Ad)(E E1:XE):TS:=(tAsg (tOp zf3 (tOp zf3 (tVr 6) (tC (.int 2))) (tVr 5)) (zaz 6))
theorem zmi:type_of% (ap3 (rd_law_change_4.eq_1 K a E E1) D σ H):=rfl
def rd_law_change_5(K:FK)(a:Ad)(E E1:XE):TS:=(tIfS (zen (tOp (rEqA K) (tOp zf3 (zdl (zat K a) [] E (zad (tVr 3) (zad (tC (.int 3)) tNil))) (tC (.int 3))) (tC (.int 0)))) (rd_law_change_4 K a E E) ze1)
theorem zmj:type_of% (ap3 (rd_law_change_5.eq_1 K a E E1) D σ H):=rfl
def rd_law_change_6(K:FK)(a:Ad)(E E1:XE):TS:=(tAsg (zdl (zco K a) [] E (zad (tVr 0) (zad (tVr 4) (zad (zdl (zat K a) [] E (zad (tVr 3) (zad (tC (.int 4)) tNil))) tNil)))) (zaz 7))
theorem zmk:type_of% (ap3 (rd_law_change_6.eq_1 K a E E1) D σ H):=rfl
def rd_law_change_7(K:FK)(a:Ad)(E E1:XE):TS:=(tAsg (zdl (zdm K a) [] E (zad (tVr 4) (zad (zdl (zat K a) [] E (zad (tVr 3) (zad (tC (.int 6)) tNil))) tNil))) (zaz 7))
theorem zml:type_of% (ap3 (rd_law_change_7.eq_1 K a E E1) D σ H):=rfl
def rd_law_change_8(K:FK)(a:Ad)(E E1:XE):TS:=(tIfS (zen (tOp rLtA (tOp zf3 (zdl (zat K a) [] E (zad (tVr 3) (zad (tC (.int 5)) tNil))) (tC (.int 5))) (tC (.int 2)))) (rd_law_change_7 K a E E) ze1)
theorem zmm:type_of% (ap3 (rd_law_change_8.eq_1 K a E E1) D σ H):=rfl
def rd_law_change_9(K:FK)(a:Ad)(E E1:XE):TS:=(tAsg (zdl (zb2 K a) [] E (zad (tVr 0) (zad (tVr 4) (zad (tVr 6) tNil)))) (zaz 8))
theorem zmn:type_of% (ap3 (rd_law_change_9.eq_1 K a E E1) D σ H):=rfl
def rd_law_change_10(K:FK)(a:Ad)(E E1:XE):TS:=(zi7 (tBM K "list" zhb (zhy (tVr 2) (tC (.str "waits"))) (zad (tTup (zad (zb5 (a "Hold") "change" (zcn K a) [] E (tVr 1) (zad (tVr 8) (zad (tVr 7) (zad (tLst tNil) tNil)))) (zad (tVr 8) tNil))) tNil)))
theorem zli:type_of% (ap3 (rd_law_change_10.eq_1 K a E E1) D σ H):=rfl
def rd_law_change_11(K:FK)(a:Ad)(E E1:XE):TS:=(ztl (zhy (tVr 2) (tC (.str "hand"))) (tVr 8) (tVr 7))
theorem zlj:type_of% (ap3 (rd_law_change_11.eq_1 K a E E1) D σ H):=rfl
def zg6(K:FK)(a:Ad)(E:XE):TS:=(tSeq (rd_law_change_1 K a E E) (tSeq (rd_law_change_2 K a E E) (tSeq (rd_law_change_3 K a E E) (tSeq (rd_law_change_5 K a E E) (tSeq (rd_law_change_6 K a E E) (tSeq (rd_law_change_8 K a E E) (tSeq (rd_law_change_9 K a E E) (tSeq (rd_law_change_10 K a E E) (rd_law_change_11 K a E E)))))))))
def rd_law_left_1(K:FK)(a:Ad)(E E1:XE):TS:=(tRet (tC (.bl false)))
theorem zpd:type_of% (ap3 (rd_law_left_1.eq_1 K a E E1) D σ H):=rfl
def rd_law_left_2(K:FK)(a:Ad)(E E1:XE):TS:=(tIfS (zen (tOp (rNeA K) (zb5 (a "Hold") "in_hand" (zbl K a) [] E (tVr 0) (zad (tVr 3) tNil)) (zhy (zhy (tVr 2) (tC (.str "hand"))) (tVr 3)))) (rd_law_left_1 K a E E) ze1)
theorem zpe:type_of% (ap3 (rd_law_left_2.eq_1 K a E E1) D σ H):=rfl
def rd_law_left_3(K:FK)(a:Ad)(E E1:XE):TS:=(tFor (zafo (zhy (tVr 2) (tC (.str "hand")))) (zaz 3) (rd_law_left_2 K a E E))
theorem zpf:type_of% (ap3 (rd_law_left_3.eq_1 K a E E1) D σ H):=rfl
def rd_law_left_4(K:FK)(a:Ad)(E E1:XE):TS:=(tRet (tC (.bl false)))
theorem zpg:type_of% (ap3 (rd_law_left_4.eq_1 K a E E1) D σ H):=rfl
def rd_law_left_5(K:FK)(a:Ad)(E E1:XE):TS:=(tIfS (zen (tOp (rNeA K) (zb5 (a "Plank") "read" (zbm K a) [] E (tVr 1) (zad (tVr 4) tNil)) (tOp (rIxA K) (zhy (tVr 2) (tC (.str "rows"))) (tVr 4)))) (rd_law_left_4 K a E E) ze1)
theorem zph:type_of% (ap3 (rd_law_left_5.eq_1 K a E E1) D σ H):=rfl
def rd_law_left_6(K:FK)(a:Ad)(E E1:XE):TS:=(tFor (ziw (zad (tCB (zbf K) (zad (zhy (tVr 2) (tC (.str "rows"))) tNil)) tNil)) (zaz 4) (rd_law_left_5 K a E E))
theorem zpi:type_of% (ap3 (rd_law_left_6.eq_1 K a E E1) D σ H):=rfl
def rd_law_left_7(K:FK)(a:Ad)(E E1:XE):TS:=(tRet (zwo (tOp (rEqA K) (zb5 (a "Hold") "waiting" (zb9 K a) [] E (tVr 0) tNil) (zlv (iSeq K (zhy (tVr 2) (tC (.str "waits")))) (zaz 0) zlu (tOp (rIxA K) (tVr 0) (tC (.int 0))) 1 [])) (tOp (rEqA K) (zb5 (a "Plank") "writings" (zbr K a) [] E (tVr 1) tNil) (zhy (tVr 2) (tC (.str "writings"))))))
theorem zpj:type_of% (ap3 (rd_law_left_7.eq_1 K a E E1) D σ H):=rfl
def zil(K:FK)(a:Ad)(E:XE):TS:=(tSeq (rd_law_left_3 K a E E) (tSeq (rd_law_left_6 K a E E) (rd_law_left_7 K a E E)))
def rd_free_name_1(K:FK)(a:Ad)(E E1:XE):TS:=(tAsg (zlv (ziw (zad (tOp (rIxA K) (zb5 (a "Layout") "counts" (zan K a) [] E (tVr 0) tNil) (tC (.int 0))) tNil)) (zaz 0) zlu (zb5 (a "Layout") "name_at" (za4 K a) [] (λ_=>E0) (tVr 1) (zad (tVr 0) tNil)) 1 [0]) (zaz 2))
theorem zny:type_of% (ap3 (rd_free_name_1.eq_1 K a E E1) D σ H):=rfl
def rd_free_name_2(K:FK)(a:Ad)(E E1:XE):TS:=(tRet (zdl (za6 K a) [] E (zad (tVr 1) (zad (tVr 2) (zad (tTup (zad (tC .non) tNil)) tNil)))))
theorem znz:type_of% (ap3 (rd_free_name_2.eq_1 K a E E1) D σ H):=rfl
def zhu(K:FK)(a:Ad)(E:XE):TS:=(tSeq (rd_free_name_1 K a E E) (rd_free_name_2 K a E E))
def rd_free_record_1(K:FK)(a:Ad)(E E1:XE):TS:=(tAsg (zlv (ziw (zad (tOp (rIxA K) (zb5 (a "Layout") "counts" (zan K a) [] E (tVr 0) tNil) (tC (.int 1))) tNil)) (zaz 0) zlu (zb5 (a "Layout") "record_mark" (zau K a) [] (λ_=>E0) (tVr 1) (zad (tVr 0) tNil)) 1 [0]) (zaz 2))
theorem zlk:type_of% (ap3 (rd_free_record_1.eq_1 K a E E1) D σ H):=rfl
def rd_free_record_2(K:FK)(a:Ad)(E E1:XE):TS:=(tRet (zdl (za6 K a) [] E (zad (tVr 1) (zad (tVr 2) (zad (tTup (zad (tC .non) (zad (tC (.int 0)) tNil))) tNil)))))
theorem zll:type_of% (ap3 (rd_free_record_2.eq_1 K a E E1) D σ H):=rfl
def zgu(K:FK)(a:Ad)(E:XE):TS:=(tSeq (rd_free_record_1 K a E E) (rd_free_record_2 K a E E))
def rd_free_piece_1(K:FK)(a:Ad)(E E1:XE):TS:=(tAsg (zlv (ziw (zad (tOp (rIxA K) (zb5 (a "Layout") "counts" (zan K a) [] E (tVr 0) tNil) (tC (.int 2))) tNil)) (zaz 0) zlu (zb5 (a "Layout") "piece_mark" (zaw K a) [] (λ_=>E0) (tVr 1) (zad (tVr 0) tNil)) 1 [0]) (zaz 2))
theorem zmo:type_of% (ap3 (rd_free_piece_1.eq_1 K a E E1) D σ H):=rfl
def rd_free_piece_2(K:FK)(a:Ad)(E E1:XE):TS:=(tRet (zdl (za6 K a) [] E (zad (tVr 1) (zad (tVr 2) (zad (tTup (zad (tC .non) (zad (tC (.int 0)) tNil))) tNil)))))
theorem zmp:type_of% (ap3 (rd_free_piece_2.eq_1 K a E E1) D σ H):=rfl
def zg7(K:FK)(a:Ad)(E:XE):TS:=(tSeq (rd_free_piece_1 K a E E) (rd_free_piece_2 K a E E))
def rd_law_ask_1(K:FK)(a:Ad)(E E1:XE):TS:=(tRet (zdl (zdn K a) [] E (zad (tVr 1) (zad (tVr 2) tNil))))
theorem zqx:type_of% (ap3 (rd_law_ask_1.eq_1 K a E E1) D σ H):=rfl
def rd_law_ask_2(K:FK)(a:Ad)(E E1:XE):TS:=(tIfS (zen (tOp (rEqA K) (tVr 0) (tC (.int 0)))) (rd_law_ask_1 K a E E) ze1)
theorem zqy:type_of% (ap3 (rd_law_ask_2.eq_1 K a E E1) D σ H):=rfl
def rd_law_ask_3(K:FK)(a:Ad)(E E1:XE):TS:=(tRet (zdl (zcp K a) [] E (zad (tVr 1) (zad (tVr 2) tNil))))
theorem zqz:type_of% (ap3 (rd_law_ask_3.eq_1 K a E E1) D σ H):=rfl
def rd_law_ask_4(K:FK)(a:Ad)(E E1:XE):TS:=(tIfS (zen (tOp (rEqA K) (tVr 0) (tC (.int 1)))) (rd_law_ask_3 K a E E) ze1)
theorem zq0:type_of% (ap3 (rd_law_ask_4.eq_1 K a E E1) D σ H):=rfl
def rd_law_ask_5(K:FK)(a:Ad)(E E1:XE):TS:=(tRet (zdl (zc6 K a) [] E (zad (tVr 1) (zad (tVr 2) tNil))))
theorem zq1:type_of% (ap3 (rd_law_ask_5.eq_1 K a E E1) D σ H):=rfl
def zjz(K:FK)(a:Ad)(E:XE):TS:=(tSeq (rd_law_ask_2 K a E E) (tSeq (rd_law_ask_4 K a E E) (rd_law_ask_5 K a E E)))
def rd_law_right_1(K:FK)(a:Ad)(E E1:XE):TS:=(tAsg (tC .non) (zaz 4))
theorem zn0:type_of% (ap3 (rd_law_right_1.eq_1 K a E E1) D σ H):=rfl
def rd_law_right_2(K:FK)(a:Ad)(E E1:XE):TS:=(tAsg (tC (.bl false)) (zaz 5))
theorem zn1:type_of% (ap3 (rd_law_right_2.eq_1 K a E E1) D σ H):=rfl
def rd_law_right_3(K:FK)(a:Ad)(E E1:XE):TS:=(tAsg (tC (.bl false)) (zaz 6))
theorem zn2:type_of% (ap3 (rd_law_right_3.eq_1 K a E E1) D σ H):=rfl
def rd_law_right_4(K:FK)(a:Ad)(E E1:XE):TS:=(tAsg (zdl (zfx K a) [] E1 (zad (tVr 0) (zad (tVr 1) (zad (tVr 2) tNil)))) (zaz 4))
theorem zn3:type_of% (ap3 (rd_law_right_4.eq_1 K a E E1) D σ H):=rfl
def rd_law_right_5(K:FK)(a:Ad)(E E1:XE):TS:=(tAsg (zwo (tCB (zcz K) (zad (tVr 7) (zad (tC (.ref (a "NoRoom"))) tNil))) (tCB (zcz K) (zad (tVr 7) (zad (tC (.ty "ValueError")) tNil)))) (zaz 5))
theorem zn4:type_of% (ap3 (rd_law_right_5.eq_1 K a E E1) D σ H):=rfl
def rd_law_right_6(K:FK)(a:Ad)(E E1:XE):TS:=(tAsg (tCB (zcz K) (zad (tVr 7) (zad (tTup (zad (tC (.ref (a "NoBlock"))) (zad (tC (.ref (a "NoChange"))) (zad (tC (.ref (a "NoName"))) (zad (tC (.ref (a "NoPiece"))) (zad (tC (.ref (a "NoRow"))) (zad (tC (.ref (a "NotSound"))) (zad (tC (.ref (a "Twice"))) tNil)))))))) tNil))) (zaz 6))
theorem zn5:type_of% (ap3 (rd_law_right_6.eq_1 K a E E1) D σ H):=rfl
def rd_law_right_7(K:FK)(a:Ad)(E E1:XE):TS:=(tTry (λE1=>(rd_law_right_4 K a E E1)) (zye (λcls=>PySem.W.exmOne K cls (.ref (a "HoldError"))) 7 (tSeq (rd_law_right_5 K a E E) (rd_law_right_6 K a E E)) zagx))
theorem zn6:type_of% (ap3 (rd_law_right_7.eq_1 K a E E1) D σ H):=rfl
def rd_law_right_8(K:FK)(a:Ad)(E E1:XE):TS:=(tRet (zwo (tVr 5) (zacc K (tVr 6))))
theorem zh8:type_of% (ap3 (rd_law_right_8.eq_1 K a E E1) D σ H):=rfl
def rd_law_right_9(K:FK)(a:Ad)(E E1:XE):TS:=(tIfS (zen (tOp rLtA (tVr 3) (tC (.int 0)))) (rd_law_right_8 K a E E) ze1)
theorem zh9:type_of% (ap3 (rd_law_right_9.eq_1 K a E E1) D σ H):=rfl
def rd_law_right_10(K:FK)(a:Ad)(E E1:XE):TS:=(tRet (zwo (tCB (zcz K) (zad (tVr 4) (zad (tC (.ty "int")) tNil))) (zwo (zacc K (tCB (zcz K) (zad (tVr 4) (zad (tC (.ty "bool")) tNil)))) (tOp (rEqA K) (tVr 4) (tVr 3)))))
theorem zhv:type_of% (ap3 (rd_law_right_10.eq_1 K a E E1) D σ H):=rfl
def zhw(K:FK)(a:Ad)(E:XE):TS:=(tSeq (rd_law_right_1 K a E E) (tSeq (rd_law_right_2 K a E E) (tSeq (rd_law_right_3 K a E E) (tSeq (rd_law_right_7 K a E E) (tSeq (rd_law_right_9 K a E E) (rd_law_right_10 K a E E))))))
def rd_law_all_right_1(K:FK)(a:Ad)(E E1:XE):TS:=(tAsg (tOp zf3 (tOp (zfz K) (tVr 3) (tOp (zj1 K) (tVr 4) (tOp (zfz K) (tC (.int 1)) (tOp zf3 (tOp zox (tVr 3) (tC (.int 3))) (tC (.int 2)))))) (tC (.int 3))) (zaz 5))
theorem zjh:type_of% (ap3 (rd_law_all_right_1.eq_1 K a E E1) D σ H):=rfl
def rd_law_all_right_2(K:FK)(a:Ad)(E E1:XE):TS:=(tRet (tC (.bl false)))
theorem zji:type_of% (ap3 (rd_law_all_right_2.eq_1 K a E E1) D σ H):=rfl
def rd_law_all_right_3(K:FK)(a:Ad)(E E1:XE):TS:=(tIfS (tNot (tTru K (zdl (zdo K a) [] E (zad (tVr 5) (zad (tVr 0) (zad (tVr 1) (zad (zdl (zc5 K a) [] E (zad (tVr 0) (zad (tVr 2) (zad (tVr 5) tNil)))) tNil))))))) (rd_law_all_right_2 K a E E) ze1)
theorem zjj:type_of% (ap3 (rd_law_all_right_3.eq_1 K a E E1) D σ H):=rfl
def rd_law_all_right_4(K:FK)(a:Ad)(E E1:XE):TS:=(tFor (ziw (zad (tC (.int 4)) tNil)) (zaz 4) (tSeq (rd_law_all_right_1 K a E E) (rd_law_all_right_3 K a E E)))
theorem zjk:type_of% (ap3 (rd_law_all_right_4.eq_1 K a E E1) D σ H):=rfl
def rd_law_all_right_5(K:FK)(a:Ad)(E E1:XE):TS:=(tRet (tC (.bl true)))
theorem zjl:type_of% (ap3 (rd_law_all_right_5.eq_1 K a E E1) D σ H):=rfl
def zfq(K:FK)(a:Ad)(E:XE):TS:=(tSeq (rd_law_all_right_4 K a E E) (rd_law_all_right_5 K a E E))
def rd_law_1(K:FK)(a:Ad)(E E1:XE):TS:=(tAsg (zdl (zat K a) [] E (zad (zdl (za5 K a) [] E (zad (tVr 0) (zad (tC (.int 0)) tNil))) (zad (tC (.int 1)) tNil))) (zaz 1))
theorem zxi:type_of% (ap3 (rd_law_1.eq_1 K a E E1) D σ H):=rfl
def rd_law_2(K:FK)(a:Ad)(E E1:XE):TS:=(tAsg (tC (.int 2)) (zaz 2))
theorem zxj:type_of% (ap3 (rd_law_2.eq_1 K a E E1) D σ H):=rfl
def rd_law_3(K:FK)(a:Ad)(E E1:XE):TS:=(tAsg (tC (.int 6)) (zaz 2))
theorem zxk:type_of% (ap3 (rd_law_3.eq_1 K a E E1) D σ H):=rfl
def rd_law_4(K:FK)(a:Ad)(E E1:XE):TS:=(tIfS (zen (tOp (rEqA K) (tOp zf3 (tVr 1) (tC (.int 4))) (tC (.int 1)))) (rd_law_3 K a E E) ze1)
theorem zxl:type_of% (ap3 (rd_law_4.eq_1 K a E E1) D σ H):=rfl
def rd_law_5(K:FK)(a:Ad)(E E1:XE):TS:=(tAsg (tOp zox (tVr 1) (tC (.int 4))) (zaz 1))
theorem zxm:type_of% (ap3 (rd_law_5.eq_1 K a E E1) D σ H):=rfl
def rd_law_6(K:FK)(a:Ad)(E E1:XE):TS:=(tAsg (tLst (zad (tOp (zfz K) (tC (.int 1)) (tOp zf3 (tVr 1) (tVr 2))) (zad (tOp (zfz K) (tC (.int 1)) (tOp zf3 (tOp zox (tVr 1) (tC (.int 6))) (tVr 2))) (zad (tOp (zfz K) (tC (.int 1)) (tOp zf3 (tOp zox (tVr 1) (tC (.int 36))) (tVr 2))) tNil)))) (zaz 3))
theorem zxn:type_of% (ap3 (rd_law_6.eq_1 K a E E1) D σ H):=rfl
def rd_law_7(K:FK)(a:Ad)(E E1:XE):TS:=(tAsg (zws (a "Layout") (zck K a) [] E (zad (tOp (rIxA K) (tVr 3) (tC (.int 0))) (zad (tOp (rIxA K) (tVr 3) (tC (.int 1))) (zad (tOp (rIxA K) (tVr 3) (tC (.int 2))) (zad (tOp (zfz K) (tC (.int 1)) (tOp zf3 (tOp zox (tVr 1) (tC (.int 216))) (tC (.int 6)))) tNil))))) (zaz 4))
theorem zxo:type_of% (ap3 (rd_law_7.eq_1 K a E E1) D σ H):=rfl
def rd_law_8(K:FK)(a:Ad)(E E1:XE):TS:=(tAsg (zb5 (a "Layout") "plank" (zb8 K a) [] E (tVr 4) tNil) (zaz 5))
theorem zxp:type_of% (ap3 (rd_law_8.eq_1 K a E E1) D σ H):=rfl
def rd_law_9(K:FK)(a:Ad)(E E1:XE):TS:=(tAsg (zlv (ziw (zad (zb5 (a "Plank") "blocks" (za3 K a) [] E (tVr 5) tNil) tNil)) (zaz 0) zlu (tOp (zj1 K) (tLst (zad (tC .non) tNil)) (zb5 (a "Plank") "cells" (zbv K a) [] (λ_=>E0) (tVr 1) tNil)) 1 [5]) (zaz 6))
theorem zxq:type_of% (ap3 (rd_law_9.eq_1 K a E E1) D σ H):=rfl
def rd_law_10(K:FK)(a:Ad)(E E1:XE):TS:=(zi7 (zdl (zep K a) [] E (zad (tVr 4) (zad (tVr 6) (zad (tVr 0) tNil)))))
theorem zvq:type_of% (ap3 (rd_law_10.eq_1 K a E E1) D σ H):=rfl
def rd_law_11(K:FK)(a:Ad)(E E1:XE):TS:=(tAsg (zaed [((tC (.str "hand")),zx8),((tC (.str "rows")),(tVr 6)),((tC (.str "waits")),(tLst tNil)),((tC (.str "writings")),(tCB (zbf K) (zad (tVr 6) tNil)))]) (zaz 7))
theorem zvr:type_of% (ap3 (rd_law_11.eq_1 K a E E1) D σ H):=rfl
def rd_law_12(K:FK)(a:Ad)(E E1:XE):TS:=(zi7 (zb5 (a "Plank") "write" (zbw K a) [] E (tVr 5) (zad (tVr 8) (zad (tCB (zeo K) (zad (tOp (rIxA K) (tVr 6) (tVr 8)) tNil)) tNil))))
theorem zvs:type_of% (ap3 (rd_law_12.eq_1 K a E E1) D σ H):=rfl
def rd_law_13(K:FK)(a:Ad)(E E1:XE):TS:=(ztl (zhy (tVr 7) (tC (.str "hand"))) (tTup (zad (tVr 8) (zad (tVr 9) tNil))) (tOp (rIxA K) (tOp (rIxA K) (tVr 6) (tVr 8)) (tVr 9)))
theorem zvt:type_of% (ap3 (rd_law_13.eq_1 K a E E1) D σ H):=rfl
def rd_law_14(K:FK)(a:Ad)(E E1:XE):TS:=(tFor (ziw (zad (tCB (zbf K) (zad (tOp (rIxA K) (tVr 6) (tVr 8)) tNil)) tNil)) (zaz 9) (rd_law_13 K a E E))
theorem zvu:type_of% (ap3 (rd_law_14.eq_1 K a E E1) D σ H):=rfl
def rd_law_15(K:FK)(a:Ad)(E E1:XE):TS:=(tFor (ziw (zad (tCB (zbf K) (zad (tVr 6) tNil)) tNil)) (zaz 8) (tSeq (rd_law_12 K a E E) (rd_law_14 K a E E)))
theorem zvv:type_of% (ap3 (rd_law_15.eq_1 K a E E1) D σ H):=rfl
def rd_law_16(K:FK)(a:Ad)(E E1:XE):TS:=(tAsg (zws (a "Hold") (zc2 K a) [] E (zad (tVr 5) tNil)) (zaz 10))
theorem zvw:type_of% (ap3 (rd_law_16.eq_1 K a E E1) D σ H):=rfl
def rd_law_17(K:FK)(a:Ad)(E E1:XE):TS:=(tRet (tC (.bl false)))
theorem zvx:type_of% (ap3 (rd_law_17.eq_1 K a E E1) D σ H):=rfl
def rd_law_18(K:FK)(a:Ad)(E E1:XE):TS:=(tIfS (tNot (tTru K (zdl (zbn K a) [] E (zad (tVr 4) (zad (tVr 10) (zad (zhy (tVr 7) (tC (.str "hand"))) (zad (tOp zox (tVr 1) (tC (.int 1296))) tNil))))))) (rd_law_17 K a E E) ze1)
theorem zvy:type_of% (ap3 (rd_law_18.eq_1 K a E E1) D σ H):=rfl
def rd_law_19(K:FK)(a:Ad)(E E1:XE):TS:=(zi7 (zdl (zdp K a) [] E (zad (tVr 10) (zad (tVr 7) (zad (tOp zf3 (zdl (zat K a) [] E (zad (tVr 11) (zad (tC (.int 9)) tNil))) (tCB (zbf K) (zad (tVr 6) tNil))) tNil)))))
theorem zvz:type_of% (ap3 (rd_law_19.eq_1 K a E E1) D σ H):=rfl
def rd_law_20(K:FK)(a:Ad)(E E1:XE):TS:=(zi7 (zdl (zc7 K a) [] E (zad (tVr 4) (zad (tVr 10) (zad (tVr 7) (zad (tVr 11) tNil))))))
theorem zv0:type_of% (ap3 (rd_law_20.eq_1 K a E E1) D σ H):=rfl
def rd_law_21(K:FK)(a:Ad)(E E1:XE):TS:=(tIfS (zen (tOp (rEqA K) (tOp zf3 (zdl (zat K a) [] E (zad (tVr 11) (zad (tC (.int 8)) tNil))) (tC (.int 4))) (tC (.int 0)))) (rd_law_19 K a E E) (rd_law_20 K a E E))
theorem zv1:type_of% (ap3 (rd_law_21.eq_1 K a E E1) D σ H):=rfl
def rd_law_22(K:FK)(a:Ad)(E E1:XE):TS:=(tRet (tC (.bl false)))
theorem zv2:type_of% (ap3 (rd_law_22.eq_1 K a E E1) D σ H):=rfl
def rd_law_23(K:FK)(a:Ad)(E E1:XE):TS:=(tIfS (tNot (tTru K (zdl (zbn K a) [] E (zad (tVr 4) (zad (tVr 10) (zad (zhy (tVr 7) (tC (.str "hand"))) (zad (zdl (zat K a) [] E (zad (tVr 11) (zad (tC (.int 7)) tNil))) tNil))))))) (rd_law_22 K a E E) ze1)
theorem zv3:type_of% (ap3 (rd_law_23.eq_1 K a E E1) D σ H):=rfl
def rd_law_24(K:FK)(a:Ad)(E E1:XE):TS:=(tFor (iSeq K (tSl (rSlA K) (tVr 0) zth (zab1 (tC (.int 60))))) (zaz 11) (tSeq (rd_law_21 K a E E) (rd_law_23 K a E E)))
theorem zv4:type_of% (ap3 (rd_law_24.eq_1 K a E E1) D σ H):=rfl
def rd_law_25(K:FK)(a:Ad)(E E1:XE):TS:=(tRet (zdl (zeq K a) [] E (zad (tVr 10) (zad (tVr 5) (zad (tVr 7) tNil)))))
theorem zv5:type_of% (ap3 (rd_law_25.eq_1 K a E E1) D σ H):=rfl
def zyp(K:FK)(a:Ad)(E:XE):TS:=(tSeq (rd_law_1 K a E E) (tSeq (rd_law_2 K a E E) (tSeq (rd_law_4 K a E E) (tSeq (rd_law_5 K a E E) (tSeq (rd_law_6 K a E E) (tSeq (rd_law_7 K a E E) (tSeq (rd_law_8 K a E E) (tSeq (rd_law_9 K a E E) (tSeq (rd_law_10 K a E E) (tSeq (rd_law_11 K a E E) (tSeq (rd_law_15 K a E E) (tSeq (rd_law_16 K a E E) (tSeq (rd_law_18 K a E E) (tSeq (rd_law_24 K a E E) (rd_law_25 K a E E)))))))))))))))
end
end L2
set_option linter.all false
set_option maxRecDepth 100000
set_option maxHeartbeats 8000000
namespace L2
open PySem PySem.Spec PyProof.Rows
local macro_rules
 | `(tactic| push_cast[$ls,*])=>`(tactic| simp only[↓zaem,↓zace,↓zaau,↓zacf,↓zaen,↓zacg,↓zaeo,↓zach,↓zaep,↓zaik,↓zag6,↓zaci,↓zaav,↓zaeq,↓zaer,↓zag7,↓zacj,↓zaes,↓zack,↓zaet,↓zag8,↓zaeu,↓zacl,↓zaev,↓zaew,↓zacm,↓zacn,↓zaco,↓zaex,↓zaey,↓zag9,↓zaha,↓zaaw,↓zaez,↓zacp,↓zae0,↓zae1,↓zae2,↓zacq,↓zahb,↓zy6,↓zacr,↓zahc,↓zae3,↓zae4,↓zacs,↓ztt,↓ztu,↓zu9,↓zva,↓zvb,↓zw0,↓zy7,
     ↓zail,↓zaim,↓zain,↓zahe,↓zahf,↓zaax,↓zy8,↓zy9,↓zae5,↓zae6,↓zae7,↓zae8,↓zae9,↓zaay,↓zaio,↓rI_i,↓rU_i,↓zahj,↓zahk,↓zahh,↓zahg,↓zahi,↓zahl,↓zahm,↓zadm,↓zahn,↓zaho,↓zafa,↓zafb,↓zafc,↓zadn,↓zado,↓zahp,↓zafd,↓zafe,↓zaaz,↓zaff,↓zact,↓zaip,↓zahq,↓zaiq,↓zair,↓zais,↓zadp,↓zafg,
     zaih,zf3,zox,zaii,zag1,zag2,Ends.drop,zbu,List.map_cons,List.map_nil,List.length_cons,List.length_nil,List.reduceReplicate,Nat.reduceAdd,Nat.reduceSub,Nat.zero_add,List.cons_append,List.nil_append,List.append_nil,List.getElem?_cons_zero,List.getElem?_cons_succ,Option.some.injEq,Option.join_some,List.set_cons_zero,List.set_cons_succ,
     V.int.injEq,V.ref.injEq,V.bl.injEq,V.str.injEq,List.cons.injEq,and_true,true_and,exists_eq_left',exists_eq_left,exists_eq',exists_eq,exists_and_left,exists_and_right,reduceCtorEq,false_and,and_false,or_false,false_or,exists_false,decide_eq_true_eq,Bool.not_eq_true',Bool.not_eq_true,decide_eq_false_iff_not,eq_self_iff_true,if_true,Bool.false_eq_true,if_false,ite_true,Bool.true_eq_false,forall_const,and_assoc,Int.reduceToNat,Int.reduceLT,Int.reduceLE,Int.reduceEq,Nat.reduceLeDiff,Int.toNat_natCast,not_true_eq_false,not_false_eq_true,Bool.not_false,Bool.not_true,↓zac1,↓zafl,↓zzi,↓zac2,↓zabb,↓zabc,↓zabd,↓zaiw,↓zxe,↓zxc,↓zaht,↓zaba,↓zac0,↓zaiu,↓zahu,↓zahv,↓zvj,↓zvk,$ls,*])
section
variable{K:PySem.W.Frag}{a:Ad}{vs:List V}{H:Hp}{Q:VK}{E:XK}
theorem zt3(h:zat K a vs H Q E):zii K a (λ_=>E) (ends Q) (zbu ["cell","turn","seed"] vs) H:=by
 obtain⟨c,t,rfl,h0,h1,q⟩:=h
 push_cast[zii,↓zo2,↓zo3]
 exact⟨.inl ⟨by decide,by decide⟩,.inl ⟨by omega,by omega⟩,.inl ⟨by omega,by omega⟩,⟨by decide,by decide⟩,q⟩
theorem zpk(h:za5 K a vs H Q E):zgp K a (λ_=>E) (ends Q) (zbu ["script","k"] vs) H:=by
 obtain⟨s,ns,k,rfl,hs,hl,q⟩:=h
 push_cast[zgp,↓zkx,↓zky,↓zkz]
 refine⟨ns.length,?_,?_⟩
 ·exact .inl ⟨_,hs,(List.length_map _).symm⟩
 split
 ·rename_i hk
  have hk:k<ns.length:=by omega
  refine zh5 hs rfl (v:=.int (zqw ns k)) ?_ q
  unfold zqw
  rw[List.getElem?_map,List.getElem?_eq_getElem hk]
  simp[List.getD,hk]
 ·rename_i hk
  have:zqw ns k=0:=by
   unfold zqw
   rw[List.getD_eq_getElem?_getD,List.getElem?_eq_none (by omega)];rfl
  rw[this]at q
  exact q
theorem zv6(h:zat K a vs H Q E):vs.length=2:=by
 obtain⟨_,_,rfl,_⟩:=h
 rfl
theorem zq2(h:za5 K a vs H Q E):vs.length=2:=by
 obtain⟨_,_,_,rfl,_⟩:=h
 rfl
theorem zq3(h:zc1 K a vs H Q E):zg2 K a (λ_=>E) (ends Q) (zbu ["self","blocks","cells"] vs) H:=by
 obtain⟨p,dx,m,w,rfl,T,hp,hm,h1,h2,q⟩:=h
 push_cast[zg2,↓zl5,↓zl6,↓zl7]
 refine⟨by omega,by omega,?_⟩
 refine zjw (zm1 m (by omega)) (λi ys H'=>Same H H'/\∃ ts:List Addr,ys=ts.map V.ref/\Paired (λt r=>H' t=some (.tup r)) ts (List.replicate i (List.replicate w .non))) ⟨Same.refl _,[],rfl,.nil⟩ (λi ys H' hi hl ⟨s,ts,e,P⟩=> ?_) (λys H' hl ⟨s,ts,e,P⟩ cl hcl=> ?_)
 ·push_cast[capV,Option.join_some,Int.zero_add]
  refine⟨by decide,λt ht=>.inr ?_⟩
  have fin:∀ (t':Addr) (H2:Hp),Same H' H2->H2 t'=some (.tup (List.replicate w .non))->Same H H2/\∃ ts':List Addr,ys++[V.ref t']=ts'.map V.ref/\Paired (λt r=>H2 t=some (.tup r)) ts' (List.replicate (i+1) (List.replicate w .non)):=λt' H2 s2 e2=>by
   refine⟨s.trans s2,ts++[t'],by rw[e,List.map_append];rfl,?_⟩
   rw[List.replicate_succ']
   exact Paired.snoc (Paired.mapP P λt r z=>s2 _ _ z) e2
  have s1:Same H' (upd H' t (.tup [V.non])):=λb o z=>by rw[zag (zai z ht)];exact z
  refine⟨t,w,[.non],rfl,rfl,SqT.of zac,by simp,by omega,by omega,zm1 _ (by simp;omega),λe1=> ?_,λe1 u hu=> ?_⟩
  ·have e1:w=1:=by omega
   refine fin t _ s1 ?_
   rw[zac,e1];rfl
  ·rw[Int.toNat_natCast,zafh]
   exact fin u _ (s1.trans λb o z=>by rw[zag (zai z hu)];exact z) zac
 ·have npc:p≠cl:=zai (s _ _ hp) hcl
  have e1:upd H' cl (HO.lst ys) p=some (HO.ins (a "Plank") dx []):=by rw[zag npc];exact s _ _ hp
  refine⟨_,_,_,e1,T.cl,T.nC,by decide,_,_,_,zac,T.cl,T.nW,zb7 (by decide),_,_,_,zac,T.cl,T.nN,zb7 (n:=1000) (Nat.succ_lt_succ (zb7 (n:=999) (by decide))),?_⟩
  rw[zahz,zhx,zhx]
  refine q cl _ (s.free hcl) ⟨⟨dx,zac⟩,⟨ts,by rw[zag npc.symm,zac,e],?_⟩,λr hr=> ?_,by simpa using hm,h2⟩ λb o eb hb=> ?_
  ·refine Paired.mapP P λt r z=> ?_
   rw[zag (zbe z (s _ _ hp) (by intro z';cases z')),zag (zai z hcl)]
   exact z
  ·rw[List.eq_of_mem_replicate hr,List.length_replicate]
  ·rw[zag hb,zag (zai (s _ _ eb) hcl)]
   exact s _ _ eb
theorem zn7(h:za3 K a vs H Q E):zf8 K a (λ_=>E) (ends Q) (zbu ["self"] vs) H:=by
 obtain⟨p,cl,w,rows,n,rfl,T,P,q⟩:=h
 obtain⟨dx,h1⟩:=P.ob
 obtain⟨ts,h2,h3⟩:=P.ls
 push_cast[zf8,↓zj3]
 refine⟨_,_,_,h1,T.cl,T.nC,_,pf_c _ _ _,rows.length,.inl ⟨_,SqL.of h2,?_⟩,q⟩
 rw[List.length_map,h3.length]
theorem zpl(h:zbv K a vs H Q E):zgn K a (λ_=>E) (ends Q) (zbu ["self"] vs) H:=by
 obtain⟨p,cl,w,rows,n,rfl,T,P,q⟩:=h
 obtain⟨dx,h1⟩:=P.ob
 push_cast[zgn,↓zks]
 exact⟨_,_,_,h1,T.cl,T.nW,_,pf_w _ _ _,q⟩
theorem zia(h:zao K a vs H Q E):zcw K a (λ_=>E) (ends Q) (zbu ["self","block"] vs) H:=by
 obtain⟨p,cl,w,rows,n,b,rfl,T,P,q,qe⟩:=h
 obtain⟨dx,h1⟩:=P.ob
 obtain⟨ts,h2,h3⟩:=P.ls
 push_cast[zcw,↓zhf,↓zhg]
 have hl:rows.length=(ts.map V.ref).length:=by rw[List.length_map,h3.length]
 split
 ·rename_i h0
  refine⟨_,_,_,h1,T.cl,T.nC,_,pf_c _ _ _,rows.length,.inl ⟨_,SqL.of h2,hl⟩,?_⟩
  split
  ·exact⟨by decide,qe (by omega)⟩
  ·exact q h0 (by omega)
 ·exact⟨by decide,qe (by omega)⟩
theorem zadt(cl:Addr)(w n:Int):(pf cl w n).lookup ("ask_for_block":Str)=none:=zvl _ _ _ (by decide +kernel) (by decide +kernel) (by decide +kernel)
theorem zq4(h:zbm K a vs H Q E):zg3 K a (λ_=>E) (ends Q) (zbu ["self","block"] vs) H:=by
 obtain⟨p,cl,w,rows,n,b,rfl,T,P,q,qe⟩:=h
 obtain⟨dx,h1⟩:=P.ob
 obtain⟨ts,h2,h3⟩:=P.ls
 push_cast[zg3,↓zl8,↓zl9,zao]
 refine⟨_,_,h1,zadt _ _ _,T,cl,w,rows,⟨n,P⟩,λh0 hb=>⟨_,_,_,h1,T.cl,T.nC,_,pf_c _ _ _,?_⟩,qe⟩
 obtain⟨i,rfl⟩:∃ i:Nat,b=i:=⟨b.toNat,by omega⟩
 have hi:i<rows.length:=by omega
 obtain⟨t,et,ht⟩:=zfm h3 (List.getElem?_eq_getElem hi)
 refine zh5 (SqL.of h2) rfl (v:=.ref t) (by rw[List.getElem?_map,et];rfl) ?_
 rw[zadp]
 exact⟨_,.inr (SqT.of ht),q i _ rfl (List.getElem?_eq_getElem hi)⟩
theorem zpm (h:zbw K a vs H Q E):zgq K a (λ_=>E) (ends Q) (zbu ["self","block","values"] vs) H:=by
  obtain⟨p,cl,w,rows,n,b,v,xs,rfl,T,P,hv,hx,q,qe⟩:=h
  obtain⟨dx,h1⟩:=P.ob
  obtain⟨ts,h2,h3⟩:=P.ls
  have npc:=P.ne
  push_cast[zgq,↓zk0,↓zk1,↓zk2,↓zk3,↓zk4,zao]
  refine⟨_,_,h1,zadt _ _ _,T,cl,w,rows,⟨n,P⟩,λh0 hb=>⟨xs.length,.inl ⟨_,hv,rfl⟩,_,_,_,h1,T.cl,T.nW,_,pf_w _ _ _,?_⟩,λz=>qe (z.imp id .inl)⟩
  obtain⟨i,rfl⟩:∃ i:Nat,b=i:=⟨b.toNat,by omega⟩
  have hi:i<rows.length:=by omega
  push_cast[]
  split
  ·exact⟨by decide,qe (.inr (.inr (by omega)))⟩
  · rename_i hw
    have hw:xs.length=w:=by omega
    refine⟨xs,.inl ⟨hv,λt ht=> ?_⟩⟩
    have ntp:p≠t:=zai h1 ht
    have ntc:cl≠t:=zai h2 ht
    refine⟨_,_,_,by rw[zag ntp];exact h1,T.cl,T.nC,_,pf_c _ _ _,?_⟩
    refine⟨cl,ts.map V.ref,(i:Int),i,rfl,rfl,by rw[zag ntc];exact h2,?_,?_⟩
    · unfold ixN
      rw[if_pos (by omega),if_pos (by rw[List.length_map,h3.length];omega),Int.toNat_natCast]
    · refine⟨_,_,_,by rw[zag npc,zag ntp];exact h1,T.cl,T.nN,_,pf_n _ _ _,?_⟩
      push_cast[]
      refine⟨_,_,by rw[zag npc,zag ntp];exact h1,by show 3<1000;decide,?_⟩
      rw[zah0]
      refine q i rfl hi hw _ ⟨⟨dx,zac⟩,⟨ts.set i t,?_,?_⟩,λr hr=> ?_,by rw[List.length_set];exact P.sz,P.sw⟩ λx o ex hxn=> ?_
      ·rw[zag npc.symm,zac,List.map_set]
      · have keep:∀ u r,H u=some (.tup r)->upd (upd (upd H t (.tup xs)) cl (.lst ((ts.map V.ref).set i (.ref t)))) p (.ins (a "Plank") dx (pf cl w ((n:Int)+1))) u=some (.tup r):=λu r hu=>by
          rw[zag (zbe hu h1 (by intro z;cases z)),zag (zbe hu h2 (by intro z;cases z)),zag (zai hu ht)]
          exact hu
        refine zs5 ?_ i (Paired.mapP h3 keep)
        rw[zag ntp.symm,zag ntc.symm,zac]
      · rcases List.mem_or_eq_of_mem_set hr with z | z
        ·exact P.wd r z
        ·rw[z];exact hw
      · have hxn:x≠p/\x≠cl:=⟨λz=>hxn (.inl z),λz=>hxn (.inr z)⟩
        rw[zag hxn.1,zag hxn.2,zag (zai ex ht)]
        exact ex
theorem zxr(cl:Addr)(w n:Int):(pf cl w n).lookup ("read":Str)=none:=zvl _ _ _ (by decide +kernel) (by decide +kernel) (by decide +kernel)
theorem zyq(cl:Addr)(w n:Int):(pf cl w n).lookup ("write":Str)=none:=zvl _ _ _ (by decide +kernel) (by decide +kernel) (by decide +kernel)
theorem zxs(cl:Addr)(w n:Int):(pf cl w n).lookup ("writings":Str)=none:=zvl _ _ _ (by decide +kernel) (by decide +kernel) (by decide +kernel)
theorem zr0(h:zc1 K a vs H Q E):vs.length=3:=by
 obtain⟨_,_,_,_,rfl,_⟩:=h
 rfl
theorem zpn(h:za3 K a vs H Q E):vs.length=1:=by
 obtain⟨_,_,_,_,_,rfl,_⟩:=h
 rfl
theorem zq5(h:zbv K a vs H Q E):vs.length=1:=by
 obtain⟨_,_,_,_,_,rfl,_⟩:=h
 rfl
theorem zim(h:zao K a vs H Q E):vs.length=2:=by
 obtain⟨_,_,_,_,_,_,rfl,_⟩:=h
 rfl
theorem zr1(h:zbm K a vs H Q E):vs.length=2:=by
 obtain⟨_,_,_,_,_,_,rfl,_⟩:=h
 rfl
theorem zq6(h:zbw K a vs H Q E):vs.length=3:=by
 obtain⟨_,_,_,_,_,_,_,_,rfl,_⟩:=h
 rfl
theorem zlm(h:zbr K a vs H Q E):ze6 K a (λ_=>E) (ends Q) (zbu ["self"] vs) H:=by
 obtain⟨p,cl,w,rows,n,rfl,T,P,q⟩:=h
 obtain⟨dx,h1⟩:=P.ob
 push_cast[ze6,↓ziz]
 exact⟨_,_,_,h1,T.cl,T.nN,_,pf_n _ _ _,q⟩
theorem zmq(h:zbr K a vs H Q E):vs.length=1:=by
 obtain⟨_,_,_,_,_,rfl,_⟩:=h
 rfl
theorem zgf{f:Str}{v:V}{fs:List (Str × V)}{n:Nat}(h:fs.length<n):(putF f v fs).length<n+1:=Nat.lt_of_le_of_lt (zic f v fs) (Nat.succ_lt_succ h)
theorem SameBut.none{b:Addr}{H H1:Hp}{x:Addr}(s:SameBut (· =b) H H1)(hb:H1 b≠Option.none)(h:H1 x=Option.none):H x=Option.none:=by
  cases e:H x with
  | none=>rfl
  | some o =>
    have:x≠b:=λz=>hb (z ▸ h)
    rw[s _ _ e this]at h
    cases h
theorem zpo(h:zcm K a vs H Q E):zgm K a (λ_=>E) (ends Q) (zbu ["self","place","value","needs"] vs) H:=by
 obtain⟨x,dx,pl,v,nt,rfl,T,hx,q⟩:=h
 push_cast[zgm,↓zkp,↓zkq,↓zkr]
 refine⟨_,_,_,hx,T.cc,T.nP,by decide,_,_,_,zac,T.cc,T.nV,zgf (n:=999) (by decide),_,_,_,zac,T.cc,T.nN,zgf (n:=999) (zgf (n:=998) (by decide)),?_⟩
 rw[zafu,zhx,zhx]
 exact q
theorem zq7(h:zcm K a vs H Q E):vs.length=4:=by
 obtain⟨_,_,_,_,_,rfl,_⟩:=h
 rfl
theorem zr2(h:zc2 K a vs H Q E):zhq K a (λ_=>E) (ends Q) (zbu ["self","plank"] vs) H:=by
 obtain⟨b,gp,cl,dx,w,rows,n,rfl,T,TP,P,hb,q⟩:=h
 push_cast[zhq,↓zm6,↓zm7,↓zm8,↓zm9,↓zna]
 refine⟨_,_,_,hb,T.cl,T.nG,by decide,by decide,?_⟩
 have e1:upd H b (.ins (bkC a) dx (putF "ground" (.ref gp) [])) b=some (.ins (bkC a) dx (putF "ground" (.ref gp) [])):=zac
 have s1:SameBut (· =b) H (upd H b (.ins (bkC a) dx (putF "ground" (.ref gp) []))):=λx o e n=>by rw[zag n];exact e
 revert e1 s1
 generalize upd H b (.ins (bkC a) dx (putF "ground" (.ref gp) []))=H1
 intro e1 s1 m hm
 have nbm:b≠m:=zai e1 hm
 have hmH:=s1.none (by rw[e1];intro z;cases z) hm
 refine⟨_,_,_,by rw[zag nbm];exact e1,T.cl,T.nM,zgf (n:=999) (by decide),?_⟩
 have s2:SameBut (· =b) H (upd (upd H1 m (.lst [])) b (.ins (bkC a) dx (putF "made" (.ref m) (putF "ground" (.ref gp) [])))):=(s1.upd (.inr hmH)).upd (.inl rfl)
 have e2:upd (upd H1 m (.lst [])) b (.ins (bkC a) dx (putF "made" (.ref m) (putF "ground" (.ref gp) []))) b=some (.ins (bkC a) dx (putF "made" (.ref m) (putF "ground" (.ref gp) []))):=zac
 have m2:upd (upd H1 m (.lst [])) b (.ins (bkC a) dx (putF "made" (.ref m) (putF "ground" (.ref gp) []))) m=some (.lst []):=by rw[zag nbm.symm,zac]
 revert s2 e2 m2
 generalize upd (upd H1 m (.lst [])) b (.ins (bkC a) dx (putF "made" (.ref m) (putF "ground" (.ref gp) [])))=H2
 intro s2 e2 m2
 have gb:∀ x xs,(· =b) x->H x≠some (.tup xs):=λx xs e=>by rw[show x=b from e,hb];intro z;cases z
 have ncl:¬ cl=b:=by obtain⟨ts,z,_⟩:=P.ls;exact zbe z hb (by intro z;cases z)
 have P2:PlankAt a H2 gp cl w rows n:=by
  obtain⟨⟨dx',f1⟩,⟨ts,f2,f3⟩,r1,r2,r3⟩:=P
  exact⟨⟨dx',s2 _ _ f1 (zbe f1 hb (zyl (by simp[pf])))⟩,⟨ts,s2 _ _ f2 (zbe f2 hb (by intro z;cases z)),Paired.mapP f3 λt r z=>s2 _ _ z (zbe z hb (by intro z;cases z))⟩,r1,r2,r3⟩
 obtain⟨dp,hp⟩:=P2.ob
 refine⟨_,_,hp,zvl _ _ _ (by decide +kernel) (by decide +kernel) (by decide +kernel),gp,cl,w,rows,n,rfl,TP,P2,rows.length,rfl,by omega,by have:=P.sz;omega,?_⟩
 rw[Int.toNat_natCast]
 refine zjw (zm1 _ (by have:=P.sz;omega)) (λi ys H'=>Same H2 H'/\∃ ls:List Addr,ys=ls.map V.ref/\ls.Nodup/\∀ l∈ls,H' l=some (.lst [])/\H2 l=none) ⟨Same.refl _,[],rfl,List.nodup_nil,by simp⟩ (λi ys H' hi hl ⟨s,ls,ey,nd,al⟩=> ?_) (λys H' hl ⟨s,ls,ey,nd,al⟩ mi hmi=> ?_)
 ·push_cast[]
  refine⟨by decide,λl hl'=>⟨s.trans (zaj hl'),ls++[l],by rw[ey,List.map_append];rfl,?_,λx hx=> ?_⟩⟩
  ·exact List.nodup_append.mpr ⟨nd,by simp,λx hx y hy e=>by rw[List.mem_singleton]at hy;subst hy;subst e;rw[(al _ hx).1]at hl';cases hl'⟩
  ·rcases List.mem_append.mp hx with hx | hx
   ·exact⟨zaj hl' _ _ (al x hx).1,(al x hx).2⟩
   ·rw[List.mem_singleton.mp hx];exact⟨zac,s.free hl'⟩
 ·have s3:SameBut (· =b) H (upd H' mi (.lst ys)):=by
   intro x o e nx
   have e':=s _ _ (s2 _ _ e nx)
   rw[zag (zai e' hmi)];exact e'
  have e3:upd H' mi (.lst ys) b=some (.ins (bkC a) dx (putF "made" (.ref m) (putF "ground" (.ref gp) []))):=by rw[zag (zai (s _ _ e2) hmi)];exact s _ _ e2
  have m3:upd H' mi (.lst ys) m=some (.lst []):=by rw[zag (zai (s _ _ m2) hmi)];exact s _ _ m2
  have i3:upd H' mi (.lst ys) mi=some (.lst (ls.map V.ref)):=by rw[zac,ey]
  have l3:∀ l∈ls,upd H' mi (.lst ys) l=some (.lst [])/\H l=none/\l≠mi/\l≠m:=λl hl'=>by
   have z:=al l hl'
   have n1:=zai z.1 hmi
   exact⟨by rw[zag n1];exact z.1,s2.none (by rw[e2];intro z;cases z) z.2,n1,λy=>by rw[y,m2]at z;cases z.2⟩
  have hmiH:H mi=none:=s2.none (by rw[e2];intro z;cases z) (s.free hmi)
  have nmm:m≠mi:=zai (s _ _ m2) hmi
  have hlen:ls.length=rows.length:=by rw[<-hl,ey,List.length_map]
  revert s3 e3 m3 i3 l3
  generalize upd H' mi (.lst ys)=H3
  intro s3 e3 m3 i3 l3
  refine⟨_,_,_,e3,T.cl,T.nI,zgf (n:=999) (zgf (n:=998) (by decide)),λlt hlt=> ?_⟩
  have nb4:b≠lt:=zai zac hlt
  rw[zag nb4.symm]at hlt
  have ltH:H lt=none:=s3.none (by rw[e3];intro z;cases z) hlt
  refine⟨_,_,_,by rw[zag nb4,zac],T.cl,T.nL,zgf (n:=999) (zgf (n:=998) (zgf (n:=997) (by decide))),λou hou=> ?_⟩
  have nb5:b≠ou:=zai zac hou
  rw[zag nb5.symm]at hou
  have nl5:lt≠ou:=zai zac hou
  rw[zag nl5.symm,zag nb5.symm]at hou
  have ouH:H ou=none:=s3.none (by rw[e3];intro z;cases z) hou
  refine⟨_,_,_,by rw[zag nb5,zac],T.cl,T.nO,zgf (n:=999) (zgf (n:=998) (zgf (n:=997) (zgf (n:=996) (by decide)))),?_⟩
  rw[zah2]
  generalize eH:upd (upd (upd (upd (upd H3 b _) lt (.dT [])) b _) ou (.dK [])) b (.ins (bkC a) dx (bf gp m mi lt ou))=H5
  have kp:∀ x,x≠b->x≠lt->x≠ou->H5 x=H3 x:=λx n1 n2 n3=>by rw[<-eH,zag n1,zag n3,zag n1,zag n2,zag n1]
  have kk:∀ x o,H3 x=some o->x≠b->H5 x=some o:=λx o e n1=>by rw[kp x n1 (zai e hlt) (zai e hou)];exact e
  have s5:SameBut (· =b) H H5:=λx o e n1=>kk x o (s3 _ _ e n1) n1
  have nbx:∀ x xs,H3 x=some (.lst xs)->x≠b:=λx xs e=>zbe e e3 (by intro z;cases z)
  refine q m mi lt ou ls H5 hmH hmiH ltH ouH (λl hl'=>(l3 l hl').2.1) ⟨⟨⟨dx,by rw[<-eH,zac]⟩,⟨[],kk _ _ m3 (nbx _ _ m3),.nil⟩,kk _ _ i3 (nbx _ _ i3),λi l e=> ?_,nd,⟨[],?_,λi j=>rfl,Nat.le_refl _⟩,⟨[],?_,λk=>rfl,List.nodup_nil,by simp⟩,by simp,by simp,by simp,⟨nmm,?_,?_,?_,?_,?_⟩,by simp⟩,?_,hlen⟩ s5
  ·have z:=l3 l (List.mem_of_getElem? e)
   exact kk _ _ z.1 (nbx _ _ z.1)
  ·rw[<-eH,zag nb4.symm,zag nl5,zag nb4.symm,zac]
  ·rw[<-eH,zag nb5.symm,zac]
  ·exact λz=>(l3 _ z).2.2.2 rfl
  ·exact λz=>(l3 _ z).2.2.1 rfl
  ·obtain⟨ts,z,_⟩:=P.ls;exact zai z hmH
  ·obtain⟨ts,z,_⟩:=P.ls;exact zai z hmiH
  ·obtain⟨ts,z,_⟩:=P.ls;exact λy=>by rw[(l3 _ y).2.1]at z;cases z
  ·obtain⟨⟨dx',f1⟩,⟨ts,f2,f3⟩,r1,r2,r3⟩:=P
   exact⟨⟨dx',s5 _ _ f1 (zbe f1 hb (zyl (by simp[pf])))⟩,⟨ts,s5 _ _ f2 (zbe f2 hb (by intro z;cases z)),Paired.mapP f3 λt r z=>s5 _ _ z (zbe z hb (by intro z;cases z))⟩,r1,r2,r3⟩
theorem zt4(h:zc2 K a vs H Q E):vs.length=2:=by
 obtain⟨_,_,_,_,_,_,_,rfl,_⟩:=h
 rfl
theorem zq8(h:zc3 K a vs H Q E):zf6 K a (λ_=>E) (ends Q) (zbu ["needs","ahead"] vs) H:=by
  obtain⟨nl,ns,o,rfl,hs,hl,q⟩:=h
  cases o with
  | none =>
    push_cast[zf6,↓zhm,↓zhn,↓zho,optV]
    refine⟨ns,hs,by omega,λx o D ks hx hD r m l=>⟨_,.inl ⟨SqL.of zac,λt ht=>q t ks _ (((zaj hx).trans (zaj hD)).trans (zaj ht)) zac r (λy=> ?_) (by omega)⟩⟩⟩
    rw[m y];simp
  | some k =>
    push_cast[zf6,↓zhm,↓zhn,↓zho,optV]
    refine⟨_,.inl hs,λl hl'=>⟨by decide,λp hp=>.inl ?_⟩⟩
    have np:l≠p:=zai zac hp
    have s0:Same H (upd (upd H l (.lst (ns.map V.int))) p (.lst [.int k])):=(zaj hl').trans (zaj hp)
    have e1:upd (upd H l (.lst (ns.map V.int))) p (.lst [.int k]) l=some (.lst (ns.map V.int)):=by rw[zag np,zac]
    have e2:upd (upd H l (.lst (ns.map V.int))) p (.lst [.int k]) p=some (.lst [.int k]):=zac
    revert s0 e1 e2
    generalize upd (upd H l (.lst (ns.map V.int))) p (.lst [.int k])=H1
    intro s0 e1 e2
    refine⟨l,p,_,_,rfl,rfl,e1,e2,zm1 _ (by simp;omega),λr hr=>⟨r,rfl,ns++[(k:Int)],?_,by simp;omega,λx o D ks hx hD rs m ll=>⟨_,.inl ⟨SqL.of zac,λt ht=>q t ks _ ((((s0.trans (zaj hr)).trans (zaj hx)).trans (zaj hD)).trans (zaj ht)) zac rs (λy=> ?_) (by simpa using ll)⟩⟩⟩⟩
    ·rw[List.map_append];exact SqL.of zac
    ·rw[m y,List.mem_append,List.mem_singleton];simp
theorem zr3(h:zc3 K a vs H Q E):vs.length=2:=by
 obtain⟨_,_,_,rfl,_⟩:=h
 rfl
theorem zin (h:za0 K a vs H Q E):zc8 K a (λ_=>E) (ends Q) (zbu ["self","place"] vs) H:=by
  obtain⟨A,w,rows,n,cs,outs,pl,i,j,rfl,T,TP,B,hp,q,qe⟩:=h
  obtain⟨dx,hb⟩:=B.bk.ob
  obtain⟨dp,hg⟩:=B.pk.ob
  have ng:∀ {m:Str},¬ m="contents"->¬ m="width"->¬ m="written"->(pf A.cl w n).lookup m=none:=λh1 h2 h3=>zvl _ _ _ h1 h2 h3
  push_cast[zc8,↓zhi,↓zhj]
  refine zge hp (n:=0) rfl rfl ?_
  push_cast[]
  split
  · rename_i h0
    refine⟨_,_,_,hb,T.cl,T.nG,_,bf_g,A.gp,rfl,_,_,hg,ng (by decide +kernel) (by decide +kernel) (by decide +kernel),A.gp,A.cl,w,rows,n,rfl,TP,B.pk,?_⟩
    push_cast[]
    split
    ·exact⟨by decide,qe λz=>by omega⟩
    · rename_i h1
      refine zge hp (n:=1) rfl rfl ?_
      push_cast[]
      split
      · rename_i h2
        refine⟨_,_,_,hb,T.cl,T.nG,_,bf_g,A.gp,rfl,_,_,hg,ng (by decide +kernel) (by decide +kernel) (by decide +kernel),A.gp,A.cl,w,rows,n,rfl,TP,B.pk,?_⟩
        push_cast[]
        split
        ·exact⟨by decide,qe λz=>by omega⟩
        ·exact q ⟨h0,by omega,h2,by omega⟩
      ·exact⟨by decide,qe λz=>by omega⟩
  ·exact⟨by decide,qe λz=>by omega⟩
theorem zi1(h:za0 K a vs H Q E):vs.length=2:=by
 obtain⟨_,_,_,_,_,_,_,_,_,rfl,_⟩:=h
 rfl
theorem zpp(h:zbx K a vs H Q E):zgr K a (λ_=>E) (ends Q) (zbu ["self","place"] vs) H:=by
 obtain⟨A,w,rows,n,cs,outs,pl,i,j,rfl,T,TP,B,hp,q,qe⟩:=h
 obtain⟨dx,hb⟩:=B.bk.ob
 obtain⟨kvs,hl,hv,_⟩:=B.bk.lat
 push_cast[zgr,↓zk5,↓zk6]
 refine⟨_,_,hb,zo0 (by decide +kernel),A,w,rows,n,cs,outs,pl,i,j,rfl,T,TP,B,hp,λh=> ?_,qe⟩
 push_cast[]
 refine⟨_,_,_,hb,T.cl,T.nL,_,bf_l,A.lt,rfl,.inr ⟨_,.inl hl⟩,_,dT2 hl hp,?_⟩
 rw[hv]
 have:=q h
 cases e:zb4 cs i j with
 | none=>rw[e]at this;exact this
 | some k=>rw[e]at this;exact this
theorem zq9(h:zbx K a vs H Q E):vs.length=2:=by
 obtain⟨_,_,_,_,_,_,_,_,_,rfl,_⟩:=h
 rfl
theorem BookIn.len{C D:Addr}{A:BA}{w:Nat}{cs:List Ch}{outs:Int->Bool}(B:BookIn C D H A w cs outs):∃ xs,H A.m=some (.lst xs)/\xs.length=cs.length:=by
 obtain⟨chs,e,p⟩:=B.made
 exact⟨_,e,by rw[List.length_map,p.length]⟩
theorem zh2 (h:zay K a vs H Q E):zci K a (λ_=>E) (ends Q) (zbu ["self","numbers","number"] vs) H:=by
  obtain⟨A,w,rows,n,cs,outs,nl,ns,rfl,T,B,hs,q,qe⟩:=h
  obtain⟨dx,hb⟩:=B.bk.ob
  obtain⟨xs,hm,hml⟩:=B.bk.len
  push_cast[zci,↓zed,↓zee,↓zef]
  refine .inl ⟨⟨_,hs⟩,?_⟩
  refine zjb (xs:=ns.map V.int) (λi σ H'=>H'=H/\(∃ z,σ=[some (.ref A.b),some (.ref nl),z])/\∀ x∈ns.take i,zzn cs x) ⟨rfl,⟨_,rfl⟩,by simp⟩ (λi σ H' _ ⟨e,_⟩=>e ▸ hs) (λi x σ H' hx ⟨e,⟨z,ez⟩,kn⟩=> ?_) (λσ H' ⟨e,⟨z,ez⟩,kn⟩=> ?_)
  · subst e;subst ez
    rw[List.getElem?_map,Option.map_eq_some_iff]at hx
    obtain⟨x',hx',rfl⟩:=hx
    push_cast[↓zed,↓zee,↓zef]
    have bad:¬ zzn cs x'->1<=sizeLine/\E (.ref (a "NoChange")) none H':=λh=>⟨by decide,qe ⟨x',List.mem_of_getElem? hx',h⟩⟩
    split
    · rename_i h0
      refine⟨_,_,_,hb,T.cl,T.nM,_,bf_m,cs.length,.inl ⟨_,SqL.of hm,hml.symm⟩,?_⟩
      split
      ·exact bad λz=>by omega
      · intro y hy
        rw[List.take_add_one,hx']at hy
        rcases List.mem_append.mp hy with hy | hy
        ·exact kn y hy
        · simp only[Option.toList_some,List.mem_singleton]at hy
          subst hy
          exact⟨h0,by omega⟩
    ·exact bad λz=>by omega
  · subst e
    refine q λx hx=>kn x ?_
    rw[List.length_map,List.take_length];exact hx
theorem zib(h:zay K a vs H Q E):vs.length=2:=by
 obtain⟨_,_,_,_,_,_,_,_,rfl,_⟩:=h
 rfl
theorem zn8(h:zb9 K a vs H Q E):zf5 K a (λ_=>E) (ends Q) (zbu ["self"] vs) H:=by
 obtain⟨A,w,rows,n,cs,outs,rfl,T,B,q⟩:=h
 obtain⟨dx,hb⟩:=B.bk.ob
 obtain⟨xs,hm,hml⟩:=B.bk.len
 obtain⟨kvo,ho,hv,_⟩:=B.bk.out
 have sz:=B.bk.sz
 push_cast[zf5,↓zj2]
 refine⟨_,_,_,hb,T.cl,T.nM,_,bf_m,cs.length,.inl ⟨_,SqL.of hm,hml.symm⟩,by omega,by omega,?_⟩
 refine zxd (λ(k:Nat)=> !outs k) (zm1 _ (by omega)) (λi hi QB qb=> ?_) λp hp=> ?_
 ·push_cast[capV]
  refine⟨_,_,_,hb,T.cl,T.nO,_,bf_o,A.ou,rfl,_,dI ho,?_⟩
  rw[hv];exact qb
 ·exact q p _ hp (zaj hp) (by rw[zac];rfl)
theorem zpq(h:zb9 K a vs H Q E):vs.length=1:=by
 obtain⟨_,_,_,_,_,_,rfl,_⟩:=h
 rfl
theorem zpr (h:zcn K a vs H Q E):zgs K a (λ_=>E) (ends Q) (zbu ["self","place","value","needs","ahead","number"] vs) H:=by
  obtain⟨A,w,rows,n,cs,outs,pl,nl,v,ns,i,j,rfl,T,TP,B,hp,hs,hl,hc,q,q1,q2⟩:=h
  obtain⟨dx,hb⟩:=B.bk.ob
  obtain⟨xs,hm,hml⟩:=B.bk.len
  push_cast[zgs,↓zk7,↓zk8,↓zk9,↓zla,↓zlb,↓zlc,↓zld]
  refine⟨_,_,hb,zo0 (by decide +kernel),A,w,rows,n,cs,outs,pl,i,j,rfl,T,TP,B,hp,λhon=> ?_,q1⟩
  push_cast[]
  refine⟨_,_,hb,zo0 (by decide +kernel),A,w,rows,n,cs,outs,nl,ns,rfl,T,B,hs,λhkn=> ?_,q2 hon⟩
  push_cast[]
  refine⟨_,_,_,hb,T.cl,T.nM,_,bf_m,cs.length,.inl ⟨_,SqL.of hm,hml.symm⟩,?_⟩
  refine⟨_,_,_,hb,T.cl,T.nM,_,bf_m,.inl ⟨rfl,_,SqL.of hm⟩,nl,ns,zb4 cs i j,rfl,hs,hl,λt ks H1 s1 et kr km kl=> ?_⟩
  push_cast[]
  intro x dy hx hdy ndy
  refine⟨x,dy,pl,v,t,rfl,T,zac,rfl,?_⟩
  rw[zhx]
  have s2:Same H1 (upd (upd H1 dy (.own x)) x (.ins (a "Change") dy (chf pl v t))):=(zaj hdy).trans (zaj (by rw[zag ndy.symm];exact hx))
  have ex:upd (upd H1 dy (.own x)) x (.ins (a "Change") dy (chf pl v t)) x=some (.ins (a "Change") dy (chf pl v t)):=zac
  revert s2 ex
  generalize upd (upd H1 dy (.own x)) x (.ins (a "Change") dy (chf pl v t))=H2
  intro s2 ex
  have s:=s1.trans s2
  have hxH:H x=none:=s1.free hx
  replace et:=s2 _ _ et
  obtain⟨chs,hm',pch⟩:=B.bk.made
  have hmi:=B.bk.mil
  obtain⟨kvs,hlt,hv,hkl⟩:=B.bk.lat
  obtain⟨kvo,hou,hvo,hko⟩:=B.bk.out
  obtain⟨i0,i1,j0,j1⟩:=hon
  obtain⟨i',rfl⟩:∃ i':Nat,i=i':=⟨i.toNat,by omega⟩
  obtain⟨j',rfl⟩:∃ j':Nat,j=j':=⟨j.toNat,by omega⟩
  have hil:i'<A.ls.length:=by rw[B.nb];omega
  have el:=List.getElem?_eq_getElem hil
  have hll:=B.bk.mic i' _ el
  have hmem:A.ls[i']∈A.ls:=List.getElem_mem hil
  revert el hll hmem
  generalize A.ls[i']=l
  intro el hll hmem
  have ap:=B.bk.ap
  have nml:A.m≠l:=λz=>ap.2.1 (z ▸ hmem)
  have nil':A.mi≠l:=λz=>ap.2.2.1 (z ▸ hmem)
  have ncl:A.cl≠l:=λz=>ap.2.2.2.2.2 (z ▸ hmem)
  have klt:∀ {y:Addr} {o:HO},H2 y=some o->(∀ k,o≠.dT k)->y≠A.lt:=λe h=>zbe e (s _ _ hlt) (h _)
  have km':∀ {y:Addr} {o:HO},H2 y=some o->(∀ k,o≠.lst k)->y≠A.m:=λe h=>zbe e (s _ _ hm') (h _)
  have kll:∀ {y:Addr} {o:HO},H2 y=some o->(∀ k,o≠.lst k)->y≠l:=λe h=>zbe e (s _ _ hll) (h _)
  have hb2:=s _ _ hb
  have hp2:=s _ _ hp
  have sz:=B.bk.sz
  have lenc:chs.length=cs.length:=pch.length
  refine⟨A.m,_,_,rfl,rfl,s _ _ hm',Nat.lt_of_lt_of_le (show(chs.map V.ref).length<1000 by rw[List.length_map];omega) (by decide),?_⟩
  have bb:A.b≠A.m:=km' hb2 (by intro k z;cases z)
  have bl:A.b≠l:=kll hb2 (by intro k z;cases z)
  have bt:A.b≠A.lt:=klt hb2 (by intro k z;cases z)
  have pm:pl≠A.m:=km' hp2 (by intro k z;cases z)
  have pl':pl≠l:=kll hp2 (by intro k z;cases z)
  have pt:pl≠A.lt:=klt hp2 (by intro k z;cases z)
  have lt':l≠A.lt:=klt (s _ _ hll) (by intro k z;cases z)
  have mt:A.m≠A.lt:=klt (s _ _ hm') (by intro k z;cases z)
  have it:A.mi≠A.lt:=klt (s _ _ hmi) (by intro k z;cases z)
  refine⟨_,_,_,by rw[zag bb];exact hb2,T.cl,T.nI,_,bf_i,zge (by rw[zag pm];exact hp2) (n:=0) rfl rfl (zh5 (SqL.of (by rw[zag ap.1.symm];exact s _ _ hmi)) (n:=i') (v:=.ref l) rfl (by rw[List.getElem?_map,el];rfl) ⟨.inl ⟨rfl,_,SqL.of (by rw[zag nml.symm];exact s _ _ hll)⟩,?_⟩)⟩
  have bln:=zvm cs i'
  refine⟨l,_,_,rfl,rfl,by rw[zag nml.symm];exact s _ _ hll,Nat.lt_of_lt_of_le (show((zd5 cs i').map λ(k:Nat)=>V.int k).length<1000 by rw[List.length_map];omega) (by decide),?_⟩
  refine⟨_,_,_,by rw[zag bl,zag bb];exact hb2,T.cl,T.nL,_,bf_l,A.lt,rfl,_,pT2 (by rw[zag lt'.symm,zag mt.symm];exact s _ _ hlt) (by rw[zag pl',zag pm];exact hp2) (by omega),?_⟩
  generalize eH:upd (upd (upd H2 A.m _) l _) A.lt (.dT (putK kvs [.inl ↑i',.inl ↑j'] (.int ↑cs.length)))=H5
  have kp:∀ y,y≠A.m->y≠l->y≠A.lt->H5 y=H2 y:=λy n1 n2 n3=>by rw[<-eH,zag n3,zag n2,zag n1]
  have s5:SameBut (λy=>y=A.m\/y=l\/y=A.lt) H H5:=λy o e ny=>by
    rw[kp y (λz=>ny (.inl z)) (λz=>ny (.inr (.inl z))) (λz=>ny (.inr (.inr z)))]
    exact s _ _ e
  have lo:∀ y,(y=A.m\/y=l\/y=A.lt)->zih (H y):=by
    rintro y (z | z | z)
    ·exact B.loose (.inl z)
    ·exact B.loose (.inr (.inr (.inl (z ▸ hmem))))
    ·exact B.loose (.inr (.inr (.inr (.inl z))))
  have hnd:∀ y∈ks,0<=y/\y<cs.length:=λy hy=>by
    rcases(km y).mp hy with h | ⟨k,e,rfl⟩
    ·exact hkn y h
    ·exact⟨by omega,by have:=zhd e;omega⟩
  refine q ⟨i0,i1,j0,j1⟩ hkn ks H5 kr km ⟨⟨⟨dx,by rw[kp _ bb bl bt];exact hb2⟩,⟨chs++[x],?_,Paired.snoc (Paired.mapP pch λy c h=>h.sb s5 lo) ⟨dy,pl,t,?_,?_,?_⟩⟩,?_,λk l' e=> ?_,B.bk.nd,⟨putK kvs [.inl ↑i',.inl ↑j'] (.int ↑cs.length),?_,λp q=> ?_,?_⟩,⟨kvo,?_,hvo,?_⟩,?_,λc hc'=> ?_,λk c e=> ?_,ap,λk c e j ej=> ?_⟩,B.pk.sbL s5 lo ?_,B.nb⟩ (s5.wide λy z=> ?_)
  ·rw[<-eH,zag mt,zag nml,zac,List.map_append];rfl
  ·rw[kp x (km' ex (by intro k z;cases z)) (kll ex (by intro k z;cases z)) (klt ex (by intro k z;cases z))];exact ex
  ·rw[kp pl pm pl' pt];exact hp2
  ·rw[kp t (km' et (by intro k z;cases z)) (kll et (by intro k z;cases z)) (klt et (by intro k z;cases z))];exact et
  ·rw[kp _ ap.1.symm nil' it];exact s _ _ hmi
  · rw [zzl]
    by_cases z:l'=l
    · subst z
      have ek:k=i':=by
        obtain⟨h1,h2⟩:=List.getElem?_eq_some_iff.mp e
        obtain⟨h3,h4⟩:=List.getElem?_eq_some_iff.mp el
        exact(List.getElem_inj B.bk.nd).mp (h2.trans h4.symm)
      subst ek
      rw[<-eH,zag lt',zac]
      simp
    · have nk:¬ i'=k:=λy=>by subst y;rw[el]at e;cases e;exact z rfl
      have hl':=B.bk.mic k l' e
      rw[kp l' (λy=>ap.2.1 (y ▸ List.mem_of_getElem? e)) z (klt (s _ _ hl') (by intro k z;cases z))]
      simp only[Int.toNat_natCast,if_neg nk]
      exact s _ _ hl'
  ·rw[<-eH,zac]
  · rw[ze3,zl2]
    by_cases z:p=i'/\q=j'
    · obtain⟨rfl,rfl⟩:=z
      simp
    · have z1:¬ ([Sum.inl p,Sum.inl q]:List Key)=[.inl ↑i',.inl ↑j']:=λy=>z (by simpa using y)
      have z2:¬ ((((i':Int).toNat:Nat):Int)=p/\(((j':Int).toNat:Nat):Int)=q):=λy=>z ⟨by omega,by omega⟩
      rw[if_neg z1,if_neg z2]
      exact hv p q
  · have:=zdu kvs [.inl ↑i',.inl ↑j'] (.int ↑cs.length)
    simp;omega
  ·rw[kp _ (km' (s _ _ hou) (by intro k z;cases z)) (kll (s _ _ hou) (by intro k z;cases z)) (klt (s _ _ hou) (by intro k z;cases z))];exact s _ _ hou
  ·exact hko.mono (by simp)
  ·simp;omega
  · rcases List.mem_append.mp hc' with h | h
    ·exact B.bk.inn c h
    · rw[List.mem_singleton.mp h]
      exact⟨by rw[Int.toNat_natCast];exact hil,(show(j':Int).toNat<w by omega)⟩
  · rcases Nat.lt_or_ge k cs.length with h | h
    · rw[List.getElem?_append_left h]at e
      exact B.bk.need k c e
    · rw[List.getElem?_append_right h]at e
      have:k - cs.length=0:=by
        rcases Nat.eq_zero_or_pos (k - cs.length)with z | z
        ·exact z
        ·rw[List.getElem?_eq_none (by simp;omega)]at e;cases e
      rw[this]at e
      cases e
      exact⟨λy hy=>⟨(hnd y hy).1,by have:=(hnd y hy).2;omega⟩,kr,(show ks.length<=100 by omega)⟩
  · rcases Nat.lt_or_ge k cs.length with h | h
    · rw[List.getElem?_append_left h]at e
      rw[List.take_append_of_le_length (by omega)]at ej
      exact B.bk.chn k c e j ej
    · rw[List.getElem?_append_right h]at e
      have:k - cs.length=0:=by
        rcases Nat.eq_zero_or_pos (k - cs.length)with z | z
        ·exact z
        ·rw[List.getElem?_eq_none (by simp;omega)]at e;cases e
      have hk:k=cs.length:=by omega
      subst hk
      rw[this]at e
      cases e
      rw[List.take_left' rfl]at ej
      exact(km _).mpr (.inr ⟨j,by simpa using ej,rfl⟩)
  · rintro (z | z | z)
    ·exact ap.2.2.2.1 z
    ·exact ncl z
    · obtain⟨ts,e,_⟩:=B.pk.ls
      exact klt (s _ _ e) (by intro k z;cases z) z
  · rcases z with z | z | z
    ·exact .inl z
    ·exact .inr (.inr (.inl (z ▸ hmem)))
    ·exact .inr (.inr (.inr (.inl z)))
theorem zra(h:zcn K a vs H Q E):vs.length=4:=by
 obtain⟨_,_,_,_,_,_,_,_,_,_,_,_,rfl,_⟩:=h
 rfl
theorem BookIn.at{C D:Addr}{A:BA}{w:Nat}{cs:List Ch}{outs:Int->Bool}{H:Hp}(B:BookIn C D H A w cs outs){k:Nat}{c:Ch}(e:cs[k]? =some c):∃ xs x,H A.m=some (.lst xs)/\xs[k]? =some (.ref x)/\ChAt D H x c:=by
 obtain⟨chs,h,p⟩:=B.made
 obtain⟨x,ex,hx⟩:=zfm p e
 exact⟨_,x,h,by rw[List.getElem?_map,ex];rfl,hx⟩
theorem zt5(n:Nat)(outs:Int->Bool):(ziy n outs).length<=n:=by
 have:=List.length_filter_le (λ(k:Nat)=> !outs k) (List.range n)
 rwa [List.length_range]at this
theorem zac7{w n:Nat}{rows:List (List V)}{gp cl:Addr}{H1:Hp}{Q:Addr->Hp->Prop}{E:XK}(T:TB K a)(TP:zc0 K a)(P:PlankAt a H1 gp cl w rows n)
  (q:∀ (A:BA) (H2:Hp),A.gp=gp->A.cl=cl->(∀ x o,H1 x=some o->x=cl\/¬ A.F x)->BkAt a H2 A w rows n [] (λ_=>false)->Same H1 H2->Q A.b H2) :
  ∀ x dx,H1 x=none->H1 dx=none->dx≠x->zc2 K a [.ref x,.ref gp] (upd (upd H1 dx (.own x)) x (.ins (bkC a) dx [])) (λv H2=>v=.non/\Q x H2) E:=λb db hb hdb ndb=>by
 have s0:Same H1 (upd (upd H1 db (.own b)) b (.ins (bkC a) db [])):=(zaj hdb).trans (zaj (by rw[zag ndb.symm];exact hb))
 refine⟨b,gp,cl,db,w,rows,n,rfl,T,TP,P.same s0,zac,λm mi lt ou ls H4 hm hmi hlt hou hls B4 sb4=>⟨rfl,?_⟩⟩
 refine q ⟨b,gp,m,mi,lt,ou,ls,cl⟩ H4 rfl rfl (λx o e=> ?_) B4 λy o e=>sb4 _ _ (s0 _ _ e) (zai e hb)
 by_cases z:x=cl
 ·exact .inl z
 ·refine .inr ?_
  have e':=s0 _ _ e
  rintro (y | y | y | y | y | y)
  ·rw[y]at e';rw[show(BA.mk b gp m mi lt ou ls cl).m=m from rfl,hm]at e';cases e'
  ·rw[y]at e';rw[show(BA.mk b gp m mi lt ou ls cl).mi=mi from rfl,hmi]at e';cases e'
  ·rw[hls x y]at e';cases e'
  ·rw[y]at e';rw[show(BA.mk b gp m mi lt ou ls cl).lt=lt from rfl,hlt]at e';cases e'
  ·rw[y]at e';rw[show(BA.mk b gp m mi lt ou ls cl).ou=ou from rfl,hou]at e';cases e'
  ·exact z y
theorem zn9(h:zbl K a vs H Q E):zgb K a (λ_=>E) (ends Q) (zbu ["self","place","number"] vs) H:=by
  obtain⟨A,w,rows,n,cs,outs,pl,i,j,rfl,T,TP,B,hp,q,qe⟩:=h
  obtain⟨dx,hb⟩:=B.bk.ob
  obtain⟨dp,hg⟩:=B.pk.ob
  push_cast[zgb,↓zj5,↓zj6,↓zj7,↓zj8]
  refine⟨_,_,hb,zo0 (by decide +kernel),A,w,rows,n,cs,outs,pl,i,j,rfl,T,TP,B,hp,λh=> ?_,qe⟩
  have q:=q h
  unfold zec at q
  cases e:zb4 cs i j with
  | none =>
    rw[e]at q
    push_cast[optV]
    refine⟨_,_,_,hb,T.cl,T.nG,_,bf_g,A.gp,rfl,_,_,hg,zxr _ _ _,zge hp (n:=0) rfl rfl ?_⟩
    refine⟨A.gp,A.cl,w,rows,n,i,rfl,TP,B.pk,λb' row eb er vl hvl=> ?_,λz=>absurd h λy=>by omega⟩
    subst eb
    have s1:=zaj (o:=.lst row) hvl
    refine zge (s1 _ _ hp) (n:=1) rfl rfl ?_
    have rl:=B.pk.wd row (List.mem_of_getElem? er)
    have hj:j.toNat<row.length:=by omega
    have ej:=List.getElem?_eq_getElem hj
    refine zh5 (SqL.of zac) (n:=j.toNat) (v:=row[j.toNat]) (by omega) ej ?_
    refine q _ _ ?_ s1
    rw[show((b':Int)).toNat=b' from by omega,er]
    exact ej
  | some k =>
    rw[e]at q
    push_cast[optV]
    have hk:=zhd e
    have ec:=List.getElem?_eq_getElem hk
    obtain⟨chs,hm,pc⟩:=B.bk.made
    obtain⟨x,ex,dx',p1,n1,h1,h2,h3⟩:=zfm pc ec
    refine⟨_,_,_,hb,T.cl,T.nM,_,bf_m,zh5 (SqL.of hm) (n:=k) (v:=.ref x) rfl (by rw[List.getElem?_map,ex];rfl) ⟨x,rfl,_,_,_,h1,T.cc,T.nV,_,zah1,q _ _ ?_ (Same.refl _)⟩⟩
    show(cs[k]?).map (·.val)=_
    rw[ec]
    rfl
theorem zps(h:zbl K a vs H Q E):vs.length=2:=by
 obtain⟨_,_,_,_,_,_,_,_,_,rfl,_⟩:=h
 rfl
theorem zoa (h:zca K a vs H Q E):zf7 K a (λ_=>E) (ends Q) (zbu ["self","number","gone","need"] vs) H:=by
  obtain⟨A,w,rows,n,cs,outs,k,c,g,kvg,rfl,T,B,ec,hg,q⟩:=h
  obtain⟨dx,hb⟩:=B.bk.ob
  obtain⟨xs,cx,hm,ex,hch⟩:=B.bk.at ec
  obtain⟨dc,pl,nt,hc1,hc2,hc3⟩:=hch
  obtain⟨kvo,ho,hv,_⟩:=B.bk.out
  push_cast[zf7,↓ze9,↓zfa,↓zfb,↓zfc]
  refine⟨_,_,_,hb,T.cl,T.nM,_,bf_m,zh5 (SqL.of hm) rfl ex ⟨cx,rfl,_,_,_,hc1,T.cc,T.nN,_,zaiy,nt,rfl,.inr ⟨⟨_,SqT.of hc3⟩,?_⟩⟩⟩
  refine zacu (xs:=c.nd.map V.int) (λi σ H'=>H'=H/\(∀ x∈c.nd.take i,(outs x || hasK kvg x)=true)/\∃ z,σ=[some (.ref A.b),some (.int k),some (.ref g),z]) ⟨rfl,by simp,_,rfl⟩ (λi σ H' _ ⟨e,_⟩=>e ▸ SqT.of hc3) (λi x σ H' hx ⟨e,al,z,ez⟩=> ?_) (λσ H' ⟨e,al,z,ez⟩=> ?_)
  · subst e;subst ez
    rw[List.getElem?_map,Option.map_eq_some_iff]at hx
    obtain⟨y,hy,rfl⟩:=hx
    push_cast[↓ze9,↓zfa,↓zfb,↓zfc]
    have step:(outs y || hasK kvg y)=true->∀ x∈c.nd.take (i+1),(outs x || hasK kvg x)=true:=λh x hx=>by
      rw[List.take_add_one,hy]at hx
      rcases List.mem_append.mp hx with hx | hx
      ·exact al x hx
      · have:x=y:=by simpa using hx
        exact this ▸ h
    refine⟨_,_,_,hb,T.cl,T.nO,_,bf_o,A.ou,rfl,_,dI ho,?_⟩
    rw[hv]
    cases h1:outs y with
    | true =>
      push_cast[]
      exact step (by rw[h1];rfl)
    | false =>
      push_cast[]
      refine⟨_,dI hg,?_⟩
      cases h2:(valV kvg (.inl y)).isSome with
      | true =>
        push_cast[]
        exact step (by show(outs y || (valV kvg (.inl y)).isSome)=true;rw[h2];simp)
      | false =>
        push_cast[]
        have e:zor c.nd (λx=>outs x || hasK kvg x)=some y:=by
          obtain⟨hi,e⟩:=List.getElem?_eq_some_iff.mp hy
          unfold zor
          rw[List.find?_eq_some_iff_append]
          refine⟨by show(!(outs y || (valV kvg (.inl y)).isSome))=true;rw[h1,h2];rfl,c.nd.take i,c.nd.drop (i+1),?_,λx hx=>by show(!!(outs x || hasK kvg x))=true;rw[al x hx];rfl⟩
          rw[<-e,<-List.drop_eq_getElem_cons hi,List.take_append_drop]
        rw[e]at q
        exact q
  · subst e;subst ez
    rw[List.length_map,List.take_length]at al
    push_cast[↓ze9,↓zfa,↓zfb,↓zfc]
    have e:zor c.nd (λx=>outs x || hasK kvg x)=none:=List.find?_eq_none.mpr λx hx=>by show ¬ (!(outs x || hasK kvg x))=true;rw[al x hx];exact Bool.false_ne_true
    rw[e]at q
    exact q
theorem zpt(h:zca K a vs H Q E):vs.length=3:=by
 obtain⟨_,_,_,_,_,_,_,_,_,_,rfl,_⟩:=h
 rfl
def zaiz(s:Pass)(m:Nat)(H1 H':Hp)(g ol hl:Addr):Prop:=∃ (kvg:List (Key × V)) (hs:List Addr),SameBut (λy=>y=g\/y=ol\/y=hl) H1 H'/\H' g=some (.dK kvg)/\(∀ x:Int,hasK kvg x=s.gone x)/\kvg.length<=m/\H' ol=some (.lst (s.out.map λ(k:Nat)=>V.int k)) ∧
 H' hl=some (.lst (hs.map V.ref))/\Paired (λx (p:Nat × Int)=>H' x=some (.tup [.int p.1,.int p.2])) hs s.held
theorem zyr(kvs:List (Key × V))(k x:Int)(v:V):hasK (putK kvs (.inl k) v) x=(hasK kvs x || x == k):=by
 unfold hasK
 rw[ze3]
 by_cases e:x=k
 ·subst e;simp
 ·have:¬ (Sum.inl x:Key)=Sum.inl k:=λz=>e (by simpa using z)
  rw[if_neg this];simp[e]
theorem zob (h:zcb K a vs H Q E):zf9 K a (λ_=>E) (ends Q) (zbu ["self","block","taken","gone","out","held","number","lack"] vs) H:=by
  obtain⟨A,w,rows,n,cs,outs,b,tk,kvt,rfl,T,B,hbl,htk,hkt,q⟩:=h
  obtain⟨dx,hb⟩:=B.bk.ob
  push_cast[zf9,↓zfd,↓zfe,↓zff,↓zfg,↓zfh,↓zfi,↓zfj,↓zfk,↓zfl,↓zer,↓zes]
  refine⟨_,htk,λg hg=>⟨by decide,λol hol=>⟨by decide,λhl hhl=> ?_⟩⟩⟩
  have s1:Same H (upd (upd (upd H g (.dK kvt)) ol (.lst [])) hl (.lst [])):=((zaj hg).trans (zaj hol)).trans (zaj hhl)
  have ngo:g≠ol:=zai zac hol
  have nol:ol≠hl:=zai zac hhl
  have ngl:g≠hl:=zai (by rw[zag ngo];exact zac) hhl
  have eg:upd (upd (upd H g (.dK kvt)) ol (.lst [])) hl (.lst []) g=some (.dK kvt):=by rw[zag ngl,zag ngo,zac]
  have eo:upd (upd (upd H g (.dK kvt)) ol (.lst [])) hl (.lst []) ol=some (.lst []):=by rw[zag nol,zac]
  have el:upd (upd (upd H g (.dK kvt)) ol (.lst [])) hl (.lst []) hl=some (.lst []):=zac
  have holH:H ol=none:=(zaj hg).free hol
  have hhlH:H hl=none:=((zaj hg).trans (zaj hol)).free hhl
  revert s1 eg eo el
  generalize upd (upd (upd H g (.dK kvt)) ol (.lst [])) hl (.lst [])=H1
  intro s1 eg eo el
  have hil:b<A.ls.length:=by rw[B.nb];exact hbl
  have ell:=List.getElem?_eq_getElem hil
  have hll:=B.bk.mic b _ ell
  revert ell hll
  generalize A.ls[b]=l
  intro ell hll
  refine⟨_,_,_,s1 _ _ hb,T.cl,T.nI,_,bf_i,zh5 (SqL.of (s1 _ _ B.bk.mil)) (n:=b) (v:=.ref l) rfl (by rw[List.getElem?_map,ell];rfl) ⟨l,rfl,.inl ⟨⟨_,SqL.of (s1 _ _ hll)⟩,?_⟩⟩⟩
  have bln:=zvm cs b
  have sz:=B.bk.sz
  have G:∀ {H':Hp},SameBut (λy=>y=g\/y=ol\/y=hl) H1 H'->Same H H':=λsb y o e=>sb _ _ (s1 _ _ e) (by
    rintro (z | z | z)
    ·rw[z,hg]at e;cases e
    ·rw[z,holH]at e;cases e
    ·rw[z,hhlH]at e;cases e)
  refine zjb (xs:=(zd5 cs b).map λ(k:Nat)=>V.int k) (λi σ H'=>zaiz (((zd5 cs b).take i).foldl (zeb cs outs) ⟨[],[],hasK kvt⟩) (1000+i) H1 H' g ol hl/\∃ z1 z2,σ=[some (.ref A.b),some (.int b),some (.ref tk),some (.ref g),some (.ref ol),some (.ref hl),z1,z2])
    ⟨⟨kvt,[],SameBut.refl _,eg,λ_=>rfl,by omega,eo,el,.nil⟩,_,_,rfl⟩ (λi σ H' _ ⟨⟨kvg,hs,sb,_⟩,_⟩=>SqL.of (G sb _ _ hll)) (λi x σ H' hx ⟨iv,z1,z2,ez⟩=> ?_) (λσ H' ⟨iv,z1,z2,ez⟩=> ?_)
  · subst ez
    have hi:=(List.getElem?_eq_some_iff.mp hx).1
    rw[List.length_map]at hi
    rw[List.getElem?_map,Option.map_eq_some_iff]at hx
    obtain⟨k,hk,rfl⟩:=hx
    have hkc:=zqa (List.mem_of_getElem? hk)
    have ec:=List.getElem?_eq_getElem hkc
    revert ec
    generalize cs[k]=c
    intro ec
    have hszs:=zym (cs:=cs) (outs:=outs) ((zd5 cs b).take i) ⟨[],[],hasK kvt⟩
    have es:=zjd (zeb cs outs) (⟨[],[],hasK kvt⟩:Pass) hk
    revert iv hszs es
    generalize ((zd5 cs b).take i).foldl (zeb cs outs) ⟨[],[],hasK kvt⟩=s
    generalize ((zd5 cs b).take (i+1)).foldl (zeb cs outs) ⟨[],[],hasK kvt⟩=s'
    intro iv hszs es
    obtain⟨kvg,hs,sb,e1,e2,e3,e4,e5,e6⟩:=iv
    simp only[List.length_nil,List.length_take]at hszs
    have sH:=G sb
    have B':=B.same sH
    obtain⟨kvo,ho,hv,_⟩:=B.bk.out
    push_cast[↓zfd,↓zfe,↓zff,↓zfg,↓zfh,↓zfi,↓zfj,↓zfk,↓zfl,↓zer,↓zes]
    refine⟨_,_,_,sH _ _ hb,T.cl,T.nO,_,bf_o,A.ou,rfl,_,dI (sH _ _ ho),?_⟩
    rw[hv]
    unfold zeb at es
    cases h1:outs k with
    | true =>
      rw[h1,Bool.true_or,if_pos rfl]at es
      push_cast[]
      rw[es]
      exact⟨kvg,hs,sb,e1,e2,by omega,e4,e5,e6⟩
    | false =>
      rw[h1,Bool.false_or]at es
      push_cast[]
      refine⟨_,dI e1,?_⟩
      have e2k:(valV kvg (.inl (k:Int))).isSome=s.gone k:=e2 k
      rw[e2k]
      cases h2:s.gone k with
      | true =>
        rw[h2,if_pos rfl]at es
        push_cast[]
        rw[es]
        exact⟨kvg,hs,sb,e1,e2,by omega,e4,e5,e6⟩
      | false =>
        rw[h2,if_neg Bool.false_ne_true,ec]at es
        push_cast[]
        refine⟨_,_,sH _ _ hb,zo0 (by decide +kernel),A,w,rows,n,cs,outs,k,c,g,kvg,rfl,T,B',ec,e1,?_⟩
        have efn:(λx=>outs x || hasK kvg x)=λx=>outs x || s.gone x:=by funext x;rw[e2]
        rw[efn]
        simp only[Option.bind_some]at es
        cases h3:zor c.nd (λx=>outs x || s.gone x)with
        | none =>
          rw[h3]at es
          dsimp only at es
          dsimp only [optI]
          rw[if_pos rfl]
          refine⟨_,pI e1 (by omega),.inl ⟨rfl,_,SqL.of (by rw[zag ngo.symm];exact e4)⟩,ol,_,_,rfl,rfl,by rw[zag ngo.symm];exact e4,Nat.lt_of_lt_of_le (show(s.out.map λ(k:Nat)=>V.int k).length<1000 by rw[List.length_map];omega) (by decide),?_⟩
          rw[es]
          refine⟨_,hs,?_,by rw[zag ngo,zac],λx=>by rw[zyr,e2],?_,by rw[zac,List.map_append];rfl,by rw[zag nol.symm,zag ngl.symm];exact e5,Paired.mapP e6 λx p e=> ?_⟩
          · intro y o e ny
            rw[zag λz=>ny (.inr (.inl z)),zag λz=>ny (.inl z)]
            exact sb _ _ e ny
          · have:=zdu kvg (.inl (k:Int)) (.bl true)
            omega
          ·rw[zag (zbe e e4 (by intro z;cases z)),zag (zbe e e1 (by intro z;cases z))];exact e
        | some l' =>
          rw[h3]at es
          dsimp only at es
          dsimp only [optI]
          rw[if_neg (by intro z;cases z)]
          refine⟨.inl ⟨rfl,_,SqL.of e5⟩,by decide,λtp htp=> ?_⟩
          have ntl:hl≠tp:=zai e5 htp
          refine⟨hl,_,_,rfl,rfl,by rw[zag ntl];exact e5,Nat.lt_of_lt_of_le (show(hs.map V.ref).length<1000 by rw[List.length_map,e6.length];omega) (by decide),?_⟩
          rw[es]
          have s2:=zaj (o:=.tup [.int (k:Int),.int l']) htp
          have kp:∀ y,y≠hl->y≠tp->upd (upd H' tp (.tup [.int (k:Int),.int l'])) hl (.lst (hs.map V.ref++[.ref tp])) y=H' y:=λy n1 n2=>by rw[zag n1,zag n2]
          refine⟨kvg,hs++[tp],?_,by rw[kp g ngl (zai e1 htp)];exact e1,e2,by omega,by rw[kp ol nol (zai e4 htp)];exact e4,by rw[zac,List.map_append];rfl,Paired.snoc (Paired.mapP e6 λx p e=> ?_) ?_⟩
          · intro y o e ny
            have e':=sb _ _ e ny
            rw[kp y (λz=>ny (.inr (.inr z))) (zai e' htp)];exact e'
          ·rw[kp x (zbe e e5 (by intro z;cases z)) (zai e htp)];exact e
          ·rw[zag ntl.symm,zac]
  · subst ez
    rw[List.length_map,List.take_length]at iv
    push_cast[↓zfd,↓zfe,↓zff,↓zfg,↓zfh,↓zfi,↓zfj,↓zfk,↓zfl,↓zer,↓zes]
    obtain⟨kvg,hs,sb,e1,e2,e3,e4,e5,e6⟩:=iv
    refine⟨by decide,λt ht=> ?_⟩
    have s2:=zaj (o:=.tup [.ref ol,.ref hl]) ht
    exact q t ol hl _ holH hhlH nol ((G sb).trans s2) ⟨zac,s2 _ _ e4,hs,s2 _ _ e5,Paired.mapP e6 λx p e=>s2 _ _ e⟩
theorem zpu(h:zcb K a vs H Q E):vs.length=3:=by
 obtain⟨_,_,_,_,_,_,_,_,_,rfl,_⟩:=h
 rfl
theorem zln (h:zbs K a vs H Q E):ze5 K a (λ_=>E) (ends Q) (zbu ["self","values","block","laid","number"] vs) H:=by
  obtain⟨A,w,rows,n,cs,outs,b,vl,row,rfl,T,B,hbl,hvl,hrl,q⟩:=h
  obtain⟨dx,hb⟩:=B.bk.ob
  obtain⟨kvo,ho,hv,_⟩:=B.bk.out
  push_cast[ze5,↓zd6,↓zd7,↓zd8,↓zd9,↓zea]
  refine⟨_,.inl (SqL.of hvl),λla hla=> ?_⟩
  have s1:=zaj (o:=.lst row) hla
  have hil:b<A.ls.length:=by rw[B.nb];exact hbl
  have ell:=List.getElem?_eq_getElem hil
  have hll:=B.bk.mic b _ ell
  revert ell hll
  generalize A.ls[b]=l
  intro ell hll
  refine⟨_,_,_,s1 _ _ hb,T.cl,T.nI,_,bf_i,zh5 (SqL.of (s1 _ _ B.bk.mil)) (n:=b) (v:=.ref l) rfl (by rw[List.getElem?_map,ell];rfl) ⟨l,rfl,.inl ⟨⟨_,SqL.of (s1 _ _ hll)⟩,?_⟩⟩⟩
  have sk:∀ o,Same H (upd H la o):=λo=>zaj hla
  refine zjb (xs:=(zd5 cs b).map λ(k:Nat)=>V.int k) (λi σ H'=>H'=upd H la (.lst (((zd5 cs b).take i).foldl (zg1 cs outs) row))/\∃ z1,σ=[some (.ref A.b),some (.ref vl),some (.int b),some (.ref la),z1])
    ⟨rfl,_,rfl⟩ (λi σ H' _ ⟨e,_⟩=>by rw[e];exact SqL.of (sk _ _ _ hll)) (λi x σ H' hx ⟨e,z1,ez⟩=> ?_) (λσ H' ⟨e,z1,ez⟩=> ?_)
  · subst e;subst ez
    rw[List.getElem?_map,Option.map_eq_some_iff]at hx
    obtain⟨k,hk,rfl⟩:=hx
    have hkc:=zqa (List.mem_of_getElem? hk)
    have ec:=List.getElem?_eq_getElem hkc
    revert ec
    generalize cs[k]=c
    intro ec
    have es:=zjd (zg1 cs outs) row hk
    have hlen:=zkm (cs:=cs) (outs:=outs) ((zd5 cs b).take i) row
    revert es hlen
    generalize ((zd5 cs b).take i).foldl (zg1 cs outs) row=r
    generalize ((zd5 cs b).take (i+1)).foldl (zg1 cs outs) row=r'
    intro es hlen
    have sH:=sk (.lst r)
    push_cast[↓zd6,↓zd7,↓zd8,↓zd9,↓zea]
    refine⟨_,_,_,sH _ _ hb,T.cl,T.nO,_,bf_o,A.ou,rfl,_,dI (sH _ _ ho),?_⟩
    rw[hv]
    unfold zg1 at es
    cases h1:outs k with
    | false =>
      rw[h1,if_neg Bool.false_ne_true]at es
      push_cast[]
      rw[es]
    | true =>
      rw[h1,if_pos rfl,ec]at es
      dsimp only at es
      push_cast[]
      obtain⟨xs,cx,hm,ex,dc,pl,nt,hc1,hc2,hc3⟩:=(B.same sH).bk.at ec
      have hcell:=(B.bk.inn c (List.mem_of_getElem? ec)).2
      refine⟨_,_,_,sH _ _ hb,T.cl,T.nM,_,bf_m,zh5 (SqL.of hm) rfl ex ⟨cx,rfl,_,_,_,hc1,T.cc,T.nV,_,zah1,?_⟩⟩
      refine⟨_,_,_,sH _ _ hb,T.cl,T.nM,_,bf_m,zh5 (SqL.of hm) rfl ex ⟨cx,rfl,_,_,_,hc1,T.cc,T.nP,_,zaix,zge hc2 (n:=1) rfl rfl ?_⟩⟩
      refine⟨la,r,(c.cell:Int),c.cell,rfl,rfl,zac,?_,?_⟩
      · unfold ixN
        rw[if_pos (by omega),if_pos (by omega),Int.toNat_natCast]
      ·rw[zhx,es]
  · subst e;subst ez
    rw[List.length_map,List.take_length]
    push_cast[↓zd6,↓zd7,↓zd8,↓zd9,↓zea]
    exact q la _ hla (sk _) zac
theorem zmr(h:zbs K a vs H Q E):vs.length=3:=by
 obtain⟨_,_,_,_,_,_,_,_,_,rfl,_⟩:=h
 rfl
theorem zrb (h:zc4 K a vs H Q E):zg4 K a (λ_=>E) (ends Q) (zbu ["self","block","values","told","number"] vs) H:=by
  obtain⟨A,w,rows,n,cs,outs,b,rfl,T,TP,B,q,qe⟩:=h
  obtain⟨dx,hb⟩:=B.bk.ob
  obtain⟨dp,hg⟩:=B.pk.ob
  push_cast[zg4,↓zeh,↓zei,↓zej,↓zek,↓zel,↓zem]
  refine⟨_,_,_,hb,T.cl,T.nG,_,bf_g,A.gp,rfl,_,_,hg,zxr _ _ _,A.gp,A.cl,w,rows,n,b,rfl,TP,B.pk,λb' row eb er vl hvl=> ?_,qe⟩
  subst eb
  push_cast[]
  have hbl:=(List.getElem?_eq_some_iff.mp er).1
  have s1:=zaj (o:=.lst row) hvl
  have ev:upd H vl (.lst row) vl=some (.lst row):=zac
  revert s1 ev
  generalize upd H vl (.lst row)=H1
  intro s1 ev
  refine⟨_,_,s1 _ _ hb,zo0 (by decide +kernel),λe0 he0=> ?_⟩
  have s2:=s1.trans (zaj (o:=.dK []) he0)
  refine⟨A,w,rows,n,cs,outs,b',e0,[],rfl,T,B.same s2,hbl,zac,by simp,λt ol hl H3 hol hhl nol s3 told=> ?_⟩
  have s03:=s2.trans s3
  have ev3:=s3 _ _ (zaj he0 _ _ ev)
  have holH:=s2.free hol
  have hhlH:=s2.free hhl
  have hasnil:(hasK ([]:List (Key × V)))=λ_=>false:=rfl
  rw[hasnil]at told
  obtain⟨ht,ho3,hs,hh3,hpr⟩:=told
  obtain⟨rise,fresh,_⟩:=zkn (cs:=cs) (outs:=outs) (b:=b')
  have eW:zix cs outs b'=λx=>outs x || (outcome cs outs (λ_=>false) b').out.any λ(k:Nat)=>x ==(k:Int):=rfl
  replace q:=λH' a1 a2 a3=>q b' row t ol hl H' rfl er holH hhlH nol a1 a2 a3
  revert ho3 hpr rise fresh eW q
  generalize outcome cs outs (λ_=>false) b'=oc
  generalize zix cs outs b'=ow
  intro ho3 hpr rise fresh eW q
  push_cast[]
  refine zge ht (n:=0) rfl rfl ⟨ol,rfl,.inl ⟨⟨_,SqL.of ho3⟩,?_⟩⟩
  obtain⟨kvo,hou,hvo,hko⟩:=B.bk.out
  have hou3:=s03 _ _ hou
  have fO:¬ A.F ol:=B.off holH
  have fL:¬ A.F hl:=B.off hhlH
  have nou:ol≠A.ou:=λz=>fO (.inr (.inr (.inr (.inr (.inl z)))))
  refine zjb (xs:=oc.out.map λ(k:Nat)=>V.int k) (λi σ H'=>(∃ kv,H'=upd H3 A.ou (.dK kv)/\(∀ x:Int,(valV kv (.inl x)).isSome=(outs x || (oc.out.take i).any λ(k:Nat)=>x ==(k:Int)))/\KeysOk kv cs.length)/\∃ z1,σ=[some (.ref A.b),some (.int b'),some (.ref vl),some (.ref t),z1])
    ⟨⟨kvo,?_,λx=>by rw[hvo];simp,hko⟩,_,rfl⟩ (λi σ H' _ ⟨⟨kv,e,_⟩,_⟩=>by rw[e];exact SqL.of (by rw[zag nou];exact ho3)) (λi x σ H' hx ⟨⟨kv,e,hv,hk⟩,z1,ez⟩=> ?_) (λσ H' ⟨⟨kv,e,hv,hk⟩,z1,ez⟩=> ?_)
  · funext y
    by_cases e:y=A.ou
    ·subst e;rw[zac];exact hou3
    ·rw[zag e]
  · subst e;subst ez
    rw[List.getElem?_map,Option.map_eq_some_iff]at hx
    obtain⟨k,ek,rfl⟩:=hx
    have hkm:=List.mem_of_getElem? ek
    have hkc:=zqa (fresh k hkm).2
    have hnone:valV kv (.inl (k:Int))=none:=by
      have:=hv k
      rw[(fresh k hkm).1,Bool.false_or]at this
      have z:(oc.out.take i).any (λ(j:Nat)=>(k:Int) ==(j:Int))=false:=by
        rw[List.any_eq_false]
        intro j hj
        obtain⟨m,hm,e⟩:=List.getElem_of_mem hj
        rw[List.length_take]at hm
        rw[List.getElem_take]at e
        obtain⟨hi,e2⟩:=List.getElem?_eq_some_iff.mp ek
        have:=List.pairwise_iff_getElem.mp rise m i (by omega) hi (by omega)
        rw[e,e2]at this
        simp;omega
      rw[z]at this
      exact Option.isSome_eq_false_iff.mp this |> Option.isNone_iff_eq_none.mp
    push_cast[↓zeh,↓zei,↓zej,↓zek,↓zel,↓zem]
    have hb3:upd H3 A.ou (.dK kv) A.b=some (.ins (bkC a) dx (bf A.gp A.m A.mi A.lt A.ou)):=by
      rw[zag (zbe (s03 _ _ hb) hou3 (by intro z;cases z))];exact s03 _ _ hb
    refine⟨_,_,_,hb3,T.cl,T.nO,_,bf_o,A.ou,rfl,_,pI zac (by have:=hk.len;have:=B.bk.sz;omega),_,zhx,λx=> ?_,hk.put hkc hnone _⟩
    have:=zyr kv k x (.bl true)
    unfold hasK at this
    rw[this,hv,List.take_add_one,ek,List.any_append,Bool.or_assoc]
    simp
  · subst e;subst ez
    rw[List.length_map,List.take_length]at hv
    replace hv:∀ x:Int,(valV kv (.inl x)).isSome=ow x:=λx=>by rw[hv,eW]
    push_cast[↓zeh,↓zei,↓zej,↓zek,↓zel,↓zem]
    have lou:zih (H A.ou):=zxg hou
    have kb:∀ {y:Addr} {o:HO},H y=some o->y≠A.ou->upd H3 A.ou (.dK kv) y=some o:=λe n=>by rw[zag n];exact s03 _ _ e
    have sb4:SameBut (· =A.ou) H (upd H3 A.ou (.dK kv)):=λy o e n=>kb e n
    have B4:BkAt a (upd H3 A.ou (.dK kv)) A w rows n cs ow:=by
      obtain⟨⟨b1,b2,b3,b4,b5,b6,_,b8,b9,b10,b11,b12⟩,pk,nb⟩:=B
      have g:∀ x,x=A.ou->zih (H x):=λx e=>e ▸ lou
      obtain⟨dx',b1⟩:=b1
      obtain⟨chs,b2,b2'⟩:=b2
      obtain⟨kvs,b6,b6'⟩:=b6
      obtain⟨ts,pl1,pl2⟩:=pk.ls
      refine⟨⟨⟨dx',kb b1 (zbe b1 hou (by intro z;cases z))⟩,⟨chs,kb b2 (zbe b2 hou (by intro z;cases z)),Paired.mapP b2' λx c h=>h.sb sb4 g⟩,kb b3 (zbe b3 hou (by intro z;cases z)),λi l e=>kb (b4 i l e) (zbe (b4 i l e) hou (by intro z;cases z)),b5,⟨kvs,kb b6 (zbe b6 hou (by intro z;cases z)),b6'⟩,⟨kv,zac,hv,hk⟩,b8,b9,b10,b11,b12⟩,pk.sbL sb4 g (zbe pl1 hou (by intro z;cases z)),nb⟩
    have ev4:upd H3 A.ou (.dK kv) vl=some (.lst row):=by rw[zag (zbe ev3 hou3 (by intro z;cases z))];exact ev3
    have ht4:upd H3 A.ou (.dK kv) t=some (.tup [.ref ol,.ref hl]):=by rw[zag (zbe ht hou3 (by intro z;cases z))];exact ht
    have ho4:upd H3 A.ou (.dK kv) ol=some (.lst (oc.out.map λ(k:Nat)=>V.int k)):=by rw[zag nou];exact ho3
    have hh4:upd H3 A.ou (.dK kv) hl=some (.lst (hs.map V.ref)):=by rw[zag (zbe hh3 hou3 (by intro z;cases z))];exact hh3
    have hp4:Paired (λx (p:Nat × Int)=>upd H3 A.ou (.dK kv) x=some (.tup [.int p.1,.int p.2])) hs oc.held:=Paired.mapP hpr λx p e=>by rw[zag (zbe e hou3 (by intro z;cases z))];exact e
    revert sb4 B4 ev4 ht4 ho4 hh4 hp4
    generalize upd H3 A.ou (.dK kv)=H4
    intro sb4 B4 ev4 ht4 ho4 hh4 hp4
    obtain⟨dx4,hb4⟩:=B4.bk.ob
    obtain⟨dp4,hg4⟩:=B4.pk.ob
    refine⟨_,_,_,hb4,T.cl,T.nG,_,bf_g,A.gp,rfl,_,_,hg4,zyq _ _ _,_,_,hb4,zo0 (by decide +kernel),A,w,rows,n,cs,ow,b',vl,row,rfl,T,B4,hbl,ev4,B.pk.wd row (List.mem_of_getElem? er),λll H5 hll5 s5 ell5=> ?_⟩
    have B5:=B4.same s5
    refine⟨A.gp,A.cl,w,rows,n,b',ll,zf4 cs ow b' row,rfl,TP,B5.pk,SqL.of ell5,by rw[zhe,B.pk.wd row (List.mem_of_getElem? er)];have:=B.pk.sw;omega,λi ei hi hxw H6 P6 sb6=> ?_,λz=> ?_⟩
    · have ei:b'=i:=by omega
      subst ei
      push_cast[↓zeh,↓zei,↓zej,↓zek,↓zel,↓zem]
      obtain⟨ts5,pl5,pt5⟩:=B5.pk.ls
      obtain⟨dp5,hg5⟩:=B5.pk.ob
      have ap:=B5.bk.ap
      have nF:∀ {y:Addr} {o:HO},H5 y=some o->(∀ C d f,o≠.ins C d f)->(∀ xs,o≠.lst xs)->¬ (y=A.gp\/y=A.cl):=λe n1 n2=>by
        rintro (z | z)
        ·exact zbe e hg5 (n1 _ _ _) z
        ·exact zbe e pl5 (n2 _) z
      have gp_b:A.b≠A.gp:=by
        obtain⟨d5,hb5⟩:=B5.bk.ob
        exact zbe hb5 hg5 (zyl (by simp[bf,pf]))
      have k6:∀ {y:Addr} {o:HO},H5 y=some o->y≠A.gp->y≠A.cl->H6 y=some o:=λe n1 n2=>sb6 _ _ e (by rintro (z | z);exact n1 z;exact n2 z)
      have notins:∀ {y:Addr} {o:HO},H5 y=some o->(∀ C d f,o≠.ins C d f)->y≠A.gp:=λe n=>zbe e hg5 (n _ _ _)
      have B6:BkAt a H6 A w (rows.set b' (zf4 cs ow b' row)) (n+1) cs ow:=by
        obtain⟨⟨b1,b2,b3,b4,b5,b6,b7,b8,b9,b10,b11,b12⟩,pk,nb⟩:=B5
        obtain⟨dx',b1⟩:=b1
        obtain⟨chs,b2,b2'⟩:=b2
        obtain⟨kvs,b6,b6'⟩:=b6
        obtain⟨kvo',b7,b7'⟩:=b7
        refine⟨⟨⟨dx',k6 b1 gp_b (zbe b1 pl5 (by intro z;cases z))⟩,⟨chs,k6 b2 (notins b2 (by intro _ _ _ z;cases z)) ap.2.2.2.1.symm,Paired.mapP b2' λx c h=> ?_⟩,k6 b3 (notins b3 (by intro _ _ _ z;cases z)) ap.2.2.2.2.1.symm,λi l e=>k6 (b4 i l e) (notins (b4 i l e) (by intro _ _ _ z;cases z)) (λz=>ap.2.2.2.2.2 (z ▸ List.mem_of_getElem? e)),b5,⟨kvs,k6 b6 (notins b6 (by intro _ _ _ z;cases z)) (zbe b6 pl5 (by intro z;cases z)),b6'⟩,⟨kvo',k6 b7 (notins b7 (by intro _ _ _ z;cases z)) (zbe b7 pl5 (by intro z;cases z)),b7'⟩,b8,b9,b10,b11,b12⟩,P6,by rw[nb,List.length_set]⟩
        obtain⟨dc,p1,n1,h1,h2,h3⟩:=h
        exact⟨dc,p1,n1,k6 h1 (zbe h1 hg5 (zyl (by simp[chf,pf]))) (zbe h1 pl5 (by intro z;cases z)),k6 h2 (notins h2 (by intro _ _ _ z;cases z)) (zbe h2 pl5 (by intro z;cases z)),k6 h3 (notins h3 (by intro _ _ _ z;cases z)) (zbe h3 pl5 (by intro z;cases z))⟩
      have ncO:ol≠A.cl:=λz=>fO (.inr (.inr (.inr (.inr (.inr z)))))
      have ncL:hl≠A.cl:=λz=>fL (.inr (.inr (.inr (.inr (.inr z)))))
      have ht5:=s5 _ _ ht4
      have ho5:=s5 _ _ ho4
      have hh5:=s5 _ _ hh4
      refine q H6 ⟨k6 ht5 (notins ht5 (by intro _ _ _ z;cases z)) (zbe ht5 pl5 (by intro z;cases z)),k6 ho5 (notins ho5 (by intro _ _ _ z;cases z)) ncO,hs,k6 hh5 (notins hh5 (by intro _ _ _ z;cases z)) ncL,Paired.mapP hp4 λx p e=> ?_⟩ B6 λy o e ny=> ?_
      · have e5:=s5 _ _ e
        exact k6 e5 (notins e5 (by intro _ _ _ z;cases z)) (zbe e5 pl5 (by intro z;cases z))
      ·exact k6 (s5 _ _ (sb4 _ _ e λz=>ny (.inl (.inr (.inr (.inr (.inr (.inl z)))))))) (λz=>ny (.inr z)) (λz=>ny (.inl (.inr (.inr (.inr (.inr (.inr z)))))))
    · rcases z with z | z | z
      ·omega
      ·omega
      ·exact absurd (by rw[zhe,B.pk.wd row (List.mem_of_getElem? er)]) z
theorem zr4(h:zc4 K a vs H Q E):vs.length=2:=by
 obtain⟨_,_,_,_,_,_,_,rfl,_⟩:=h
 rfl
theorem zpv(h:zck K a vs H Q E):zgo K a (λ_=>E) (ends Q) (zbu ["self","names","records","pieces","cells"] vs) H:=by
 obtain⟨p,dx,n,r,c,w,rfl,T,hp,b1,b2,b3,b4,b5,q⟩:=h
 push_cast[zgo,↓zkt,↓zku,↓zkv,↓zkw]
 refine⟨_,_,_,hp,T.cl,T.n1,by decide,_,_,_,zac,T.cl,T.n2,zb7 (by decide),_,_,_,zac,T.cl,T.n3,zb7 (n:=1000) (Nat.succ_lt_succ (zb7 (n:=999) (by decide))),_,_,_,zac,T.cl,T.n4,?_,?_⟩
 ·exact zb7 (n:=1000) (Nat.succ_lt_succ (zb7 (n:=999) (Nat.succ_lt_succ (zb7 (n:=998) (by decide)))))
 ·rw[zah4,zhx,zhx,zhx]
  exact q _ ⟨⟨dx,zac⟩,b1,b2,b3,b4,b5⟩ λb o e hb=>by rw[zag hb];exact e
theorem zi2(h:zam K a vs H Q E):zdi K a (λ_=>E) (ends Q) (zbu ["self","block","k"] vs) H:=by
 obtain⟨p,n,r,c,w,k,b,rfl,T,L,q⟩:=h
 obtain⟨dx,e⟩:=L.ob
 have:=L.h1
 have:=L.hw
 push_cast[zdi,↓zh0]
 refine⟨_,_,_,e,T.cl,T.n4,_,lf_w,?_⟩
 push_cast[]
 refine⟨⟨by omega,by omega⟩,_,_,_,e,T.cl,T.n4,_,lf_w,?_⟩
 push_cast[]
 exact⟨by omega,by decide,q⟩
theorem zlo(h:za4 K a vs H Q E):ze7 K a (λ_=>E) (ends Q) (zbu ["self","k"] vs) H:=by
 obtain⟨p,n,r,c,w,k,rfl,T,L,q⟩:=h
 obtain⟨dx,e⟩:=L.ob
 push_cast[ze7,↓zi0]
 exact⟨_,_,e,zgw (by decide +kernel),p,n,r,c,w,k,0,rfl,T,L,q⟩
theorem zjm(h:zbb K a vs H Q E):zdw K a (λ_=>E) (ends Q) (zbu ["self","k"] vs) H:=by
 obtain⟨p,n,r,c,w,k,rfl,T,L,q⟩:=h
 obtain⟨dx,e⟩:=L.ob
 push_cast[zdw,↓zh7]
 exact⟨_,_,e,zgw (by decide +kernel),_,_,_,e,T.cl,T.n1,_,lf_n,p,n,r,c,w,k,_,rfl,T,L,q⟩
theorem zj9(h:zbi K a vs H Q E):zeg K a (λ_=>E) (ends Q) (zbu ["self","k"] vs) H:=by
 obtain⟨p,n,r,c,w,k,rfl,T,L,q⟩:=h
 obtain⟨dx,e⟩:=L.ob
 push_cast[zeg,↓zij]
 refine⟨_,_,e,zgw (by decide +kernel),_,_,_,e,T.cl,T.n1,_,lf_n,_,_,_,e,T.cl,T.n2,_,lf_r,?_⟩
 push_cast[]
 exact⟨p,n,r,c,w,k,_,rfl,T,L,q⟩
theorem zio(h:zau K a vs H Q E):zc9 K a (λ_=>E) (ends Q) (zbu ["self","k"] vs) H:=by
 obtain⟨p,n,r,c,w,k,rfl,T,L,q⟩:=h
 obtain⟨dx,e⟩:=L.ob
 push_cast[zc9,↓zhk]
 exact⟨_,_,e,zgw (by decide +kernel),_,_,e,zgw (by decide +kernel),p,n,r,c,w,rfl,T,L,p,n,r,c,w,k,_,rfl,T,L,q⟩
theorem zi3(h:zaw K a vs H Q E):zdj K a (λ_=>E) (ends Q) (zbu ["self","k"] vs) H:=by
 obtain⟨p,n,r,c,w,k,rfl,T,L,q⟩:=h
 obtain⟨dx,e⟩:=L.ob
 push_cast[zdj,↓zh1]
 refine⟨_,_,e,zgw (by decide +kernel),_,_,e,zgw (by decide +kernel),p,n,r,c,w,rfl,T,L,_,_,_,e,T.cl,T.n2,_,lf_r,?_⟩
 push_cast[]
 exact⟨p,n,r,c,w,k,_,rfl,T,L,q⟩
theorem zgc(h:zal K a vs H Q E):zbd K a (λ_=>E) (ends Q) (zbu ["self"] vs) H:=by
 obtain⟨p,n,r,c,w,rfl,T,L,q⟩:=h
 obtain⟨dx,e⟩:=L.ob
 push_cast[zbd,↓zfn]
 refine⟨_,_,_,e,T.cl,T.n1,_,lf_n,_,_,_,e,T.cl,T.n2,_,lf_r,?_⟩
 push_cast[]
 refine⟨_,_,_,e,T.cl,T.n3,_,lf_c,?_⟩
 push_cast[]
 exact q
theorem zms(h:zb1 K a vs H Q E):zfp K a (λ_=>E) (ends Q) (zbu ["self"] vs) H:=by
 obtain⟨p,n,r,c,w,rfl,T,L,q⟩:=h
 obtain⟨dx,e⟩:=L.ob
 push_cast[zfp,↓zjg]
 refine⟨_,_,e,zgw (by decide +kernel),p,n,r,c,w,rfl,T,L,_,_,_,e,T.cl,T.n2,_,lf_r,?_⟩
 push_cast[]
 refine⟨_,_,_,e,T.cl,T.n3,_,lf_c,?_⟩
 push_cast[]
 exact q
theorem zmt(h:zan K a vs H Q E):zfo K a (λ_=>E) (ends Q) (zbu ["self"] vs) H:=by
 obtain⟨p,n,r,c,w,rfl,T,L,q⟩:=h
 obtain⟨dx,e⟩:=L.ob
 obtain⟨_,b1,b2,b3,b4,b5⟩:=L
 push_cast[zfo,↓zjf]
 refine⟨_,_,_,e,T.cl,T.n1,_,lf_n,_,_,_,e,T.cl,T.n4,_,lf_w,?_⟩
 push_cast[]
 refine⟨.inl ⟨by omega,by omega⟩,_,_,_,e,T.cl,T.n2,_,lf_r,_,_,_,e,T.cl,T.n4,_,lf_w,?_⟩
 push_cast[]
 refine⟨.inl ⟨by omega,by omega⟩,_,_,_,e,T.cl,T.n3,_,lf_c,_,_,_,e,T.cl,T.n4,_,lf_w,?_⟩
 push_cast[]
 exact⟨.inl ⟨by omega,by omega⟩,by decide,q⟩
theorem zoc(h:zb8 K a vs H Q E):zga K a (λ_=>E) (ends Q) (zbu ["self"] vs) H:=by
 obtain⟨p,n,r,c,w,rfl,T,TP,L,q⟩:=h
 obtain⟨dx,e⟩:=L.ob
 have LL:=L
 obtain⟨_,b1,b2,b3,b4,b5⟩:=L
 push_cast[zga,↓zj4]
 refine⟨_,_,e,zgw (by decide +kernel),p,n,r,c,w,rfl,T,LL,_,_,_,e,T.cl,T.n4,_,lf_w,λx dx' hx hdx hne=> ?_⟩
 have s3:Same H (upd (upd H dx' (.own x)) x (.ins (a "Plank") dx' [])):=(zaj hdx).trans (zaj (by rw[zag hne.symm];exact hx))
 refine⟨x,dx',n+r+c+r+c,w,by simp,TP,zac,by omega,b4,by omega,λcl H2 hcl P2 s4=>⟨rfl,q x cl H2 hx (s3.free hcl) P2 λb o eb=>s4 _ _ (s3 _ _ eb) (zai eb hx)⟩⟩
theorem zrc(h:zck K a vs H Q E):vs.length=5:=by
 obtain⟨_,_,_,_,_,_,rfl,_⟩:=h
 rfl
theorem zjn(h:zam K a vs H Q E):vs.length=3:=by
 obtain⟨_,_,_,_,_,_,_,rfl,_⟩:=h
 rfl
theorem zmu(h:za4 K a vs H Q E):vs.length=2:=by
 obtain⟨_,_,_,_,_,_,rfl,_⟩:=h
 rfl
theorem zka(h:zbb K a vs H Q E):vs.length=2:=by
 obtain⟨_,_,_,_,_,_,rfl,_⟩:=h
 rfl
theorem zlp(h:zbi K a vs H Q E):vs.length=2:=by
 obtain⟨_,_,_,_,_,_,rfl,_⟩:=h
 rfl
theorem zi4(h:zau K a vs H Q E):vs.length=2:=by
 obtain⟨_,_,_,_,_,_,rfl,_⟩:=h
 rfl
theorem zjo(h:zaw K a vs H Q E):vs.length=2:=by
 obtain⟨_,_,_,_,_,_,rfl,_⟩:=h
 rfl
theorem zgd(h:zal K a vs H Q E):vs.length=1:=by
 obtain⟨_,_,_,_,_,rfl,_⟩:=h
 rfl
theorem zod(h:zb1 K a vs H Q E):vs.length=1:=by
 obtain⟨_,_,_,_,_,rfl,_⟩:=h
 rfl
theorem zoe(h:zan K a vs H Q E):vs.length=1:=by
 obtain⟨_,_,_,_,_,rfl,_⟩:=h
 rfl
theorem zpw(h:zb8 K a vs H Q E):vs.length=1:=by
 obtain⟨_,_,_,_,_,rfl,_⟩:=h
 rfl
theorem zr5(h:zb2 K a vs H Q E):zhs K a (λ_=>E) (ends Q) (zbu ["layout","kind","k"] vs) H:=by
 obtain⟨p,n,r,c,w,kind,k,rfl,T,L,hk,q⟩:=h
 obtain⟨dx,e⟩:=L.ob
 push_cast[zhs,↓znj,↓znk,↓znl,↓znm,↓znn,↓zno,↓znp,↓znq,↓znr]
 have ek:((k % w:Nat):Int)=(k:Int) % w:=by omega
 have ed:((k / w:Nat):Int)=(k:Int) / w:=by omega
 unfold kBlk at q
 rw[ek]at q
 rcases(by omega:kind=0\/kind=1\/kind=2\/kind=3\/kind=4)with z | z | z | z | z<;>subst z
 ·rw[if_pos (by decide)]
  refine⟨_,_,e,zgw (by decide +kernel),p,n,r,c,w,k,rfl,T,L,?_⟩
  simpa [ed]using q
 ·rw[if_neg (by decide),if_pos (by decide)]
  refine⟨_,_,e,zgw (by decide +kernel),p,n,r,c,w,k,rfl,T,L,?_⟩
  simpa [ed]using q
 ·rw[if_neg (by decide),if_neg (by decide),if_pos (by decide)]
  refine⟨_,_,e,zgw (by decide +kernel),p,n,r,c,w,k,rfl,T,L,?_⟩
  simpa [ed]using q
 ·rw[if_neg (by decide),if_neg (by decide),if_neg (by decide),if_pos (by decide)]
  refine⟨_,_,e,zgw (by decide +kernel),p,n,r,c,w,k,rfl,T,L,?_⟩
  simpa [ed]using q
 ·rw[if_neg (by decide),if_neg (by decide),if_neg (by decide),if_neg (by decide)]
  refine⟨_,_,e,zgw (by decide +kernel),p,n,r,c,w,k,rfl,T,L,?_⟩
  simpa [ed]using q
theorem zt6(h:zb2 K a vs H Q E):vs.length=3:=by
 obtain⟨_,_,_,_,_,_,_,rfl,_⟩:=h
 rfl
theorem zafw{z:Str}{i:Int}{n:Nat}{c:Nat}{Q:VK}(hi:i=n)(hL:z.cps.toList.length<=1000)(hc:z.cps.toList[n]? =some c)(q:Q (.str ⟨#[c]⟩) H):rIxA K (.str z) (.int i) H Q:=by
 subst hi
 exact .inr (.inr ⟨z,n,c,rfl,rfl,Nat.le_trans (by simpa [Str.length]using hL) (zm1 _ (by omega)),zwu hc,q⟩)
theorem zai0:∀ i:Fin 10,∀ j:Fin 8,∃ c,(Str.ofString "qwertyuiop").cps.toList[i.val]? =some c/\PyData.strOk (repS ⟨#[c]⟩ (1+(j.val:Int)))=true:=λi j=>by
 have h1:∀ i:Fin 10,(Str.ofString "qwertyuiop").cps.toList[i.val]? =some ((Str.ofString "qwertyuiop").cps.toList[i.val]!):=by decide +kernel
 have h2:∀ i:Fin 10,∀ j:Fin 8,PyData.strOk (repS ⟨#[((Str.ofString "qwertyuiop").cps.toList)[i.val]!]⟩ (1+(j.val:Int)))=true:=by decide +kernel
 exact⟨_,h1 i,h2 i j⟩
theorem zai1:∀ j:Fin 11,PyData.strOk (Txt.slice (Str.ofString "Some text ~") none (some (1+(j.val:Int))))=true:=by decide +kernel
theorem zr6(h:zco K a vs H Q E):zhr K a (λ_=>E) (ends Q) (zbu ["layout","kind","number","counts"] vs) H:=by
 obtain⟨p,n,r,c,w,kind,x,rfl,T,L,h1,h2,hx,q⟩:=h
 obtain⟨dx,e⟩:=L.ob
 push_cast[zhr,↓znb,↓znc,↓znd,↓zne,↓znf,↓zng,↓znh,↓zni]
 refine⟨_,_,e,zgw (by decide +kernel),p,n,r,c,w,rfl,T,L,λt ht=> ?_⟩
 have s1:=zaj (o:=.tup [V.int ((n:Int) * w),V.int ((r:Int) * w),V.int ((c:Int) * w)]) ht
 have e1:upd H t (.tup [V.int ((n:Int) * w),V.int ((r:Int) * w),V.int ((c:Int) * w)]) t=some (.tup [V.int ((n:Int) * w),V.int ((r:Int) * w),V.int ((c:Int) * w)]):=zac
 have hw:=L.h1
 have k1:0<(r:Int) * w:=Int.mul_pos (by omega) (by omega)
 have k2:0<(c:Int) * w:=Int.mul_pos (by omega) (by omega)
 have two:(2:Nat)<=sizeLine:=by decide
 show(if _ then _ else _)
 revert s1 e1
 generalize upd H t (.tup [V.int ((n:Int) * w),V.int ((r:Int) * w),V.int ((c:Int) * w)])=H1
 intro s1 e1
 split
 ·obtain⟨ch,hc,hok⟩:=zai0 ⟨(x % 10).toNat,by omega⟩ ⟨(x / 10 % 8).toNat,by omega⟩
  rw[show(((x / 10 % 8).toNat:Nat):Int)=x / 10 % 8 by omega]at hok
  refine zafw (n:=(x % 10).toNat) (by omega) (by decide +kernel) hc ⟨⟨by omega,by omega⟩,?_⟩
  rw[zaay]
  refine⟨by omega,by omega,(by show(1:Nat)<=1000;omega),⟨by omega,by omega⟩,zge e1 (n:=1) rfl rfl ?_⟩
  push_cast[]
  exact⟨k1,two,λu hu=>q _ _ (s1.trans (zaj hu)) ⟨_,zac,by simp,λv hv=>by
   simp only[List.mem_cons,List.not_mem_nil,or_false]at hv
   rcases hv with rfl | rfl
   ·exact hok
   ·trivial⟩⟩
 split
 ·exact q _ _ s1 trivial
 split
 ·refine⟨⟨by omega,by omega⟩,zge e1 (n:=2) rfl rfl ?_⟩
  push_cast[]
  refine⟨k2,by decide,λu hu=>⟨two,λu2 hu2=> ?_⟩⟩
  have s3:=zaj (o:=.tup [V.int (1+x % 4),V.ref u]) hu2
  refine q _ _ ((s1.trans (zaj hu)).trans s3) ⟨_,zac,by simp,λv hv=> ?_⟩
  simp only[List.mem_cons,List.not_mem_nil,or_false]at hv
  rcases hv with rfl | rfl
  ·trivial
  ·exact⟨_,s3 _ _ zac,by simp,λv hv=>by rw[List.mem_singleton.mp hv];trivial⟩
 ·have hok:=zai1 ⟨(x % 11).toNat,by omega⟩
  rw[show(((x % 11).toNat:Nat):Int)=x % 11 by omega]at hok
  exact⟨Nat.le_trans (m:=11) (by decide +kernel) (zm1 11 (by decide)),q _ _ s1 hok⟩
theorem zt7(h:zco K a vs H Q E):vs.length=3:=by
 obtain⟨_,_,_,_,_,_,_,rfl,_⟩:=h
 rfl
theorem zr7(h:zdm K a vs H Q E):zhp K a (λ_=>E) (ends Q) (zbu ["kind","number"] vs) H:=by
 obtain⟨kind,x,rfl,q⟩:=h
 push_cast[zhp,↓zm3,↓zm4,↓zm5]
 refine⟨by decide,λp hp=>⟨p,_,rfl,.inr (SqT.of zac),rfl,rfl,_,rfl,?_⟩⟩
 show(if(inV (V.int kind) [V.int 1,V.int 2])=true then _ else _)
 split
 ·refine⟨by decide,λl hl=> ?_⟩
  have s:=(zaj (o:=.tup [V.int 1,V.int 2]) hp).trans (zaj (o:=.lst [V.int 0,V.non]) hl)
  rcases(by omega:x % 2=0\/x % 2=1)with e | e<;>rw[e]
  ·exact zh5 (SqL.of zac) (n:=0) rfl rfl (q _ _ s trivial)
  ·exact zh5 (SqL.of zac) (n:=1) rfl rfl (q _ _ s trivial)
 ·exact q _ _ (zaj hp) trivial
theorem zt8(h:zdm K a vs H Q E):vs.length=2:=by
 obtain⟨_,_,rfl,_⟩:=h
 rfl
theorem zadu{f:Nat->Bool}{m i:Nat}(hi:i<m)(h:f i=true)(hl:∀ j<i,f j=false):lowF f m=i:=by
 unfold lowF
 have:(List.range m).find? f=some i:=by
  rw[List.find?_eq_some_iff_append]
  refine⟨h,List.range i,(List.range (m - i - 1)).map (i+1+·),?_,λj hj=>by rw[hl j (List.mem_range.mp hj)];rfl⟩
  have e1:m=i+(1+(m - i - 1)):=by omega
  conv=>lhs;rw[e1]
  rw[List.range_add,List.range_add]
  simp[Nat.add_assoc,Function.comp_def]
 rw[this]
theorem zys{f:Nat->Bool}{m:Nat}(hl:∀ j<m,f j=false):lowF f m= -1:=by
 unfold lowF
 have:(List.range m).find? f=none:=List.find?_eq_none.mpr λj hj=>by rw[hl j (List.mem_range.mp hj)];exact Bool.false_ne_true
 rw[this]
theorem zac8{n:Nat}{H:Hp}{v:V}{xs:List V}(hx:∀ z∈xs,zac6 z)(hv:GoodV n H v)(hf:zov v=true):inV v xs=decide (v∈xs):=by
 rw[Bool.eq_iff_iff,decide_eq_true_iff]
 unfold inV
 rw[List.any_eq_true]
 have key:∀ z,zac6 z->(eqV z v=true↔z=v):=λz hz=>by
  rcases hz with rfl | ⟨i,rfl⟩<;>(cases v<;>first | (simp[eqV];done) | (cases n<;>exact hv.elim) | (simp[zov]at hf))
 constructor
 ·rintro ⟨z,hz,e⟩
  rw[<-(key z (hx z hz)).mp e];exact hz
 ·intro h
  exact⟨v,h,(key v (hx v h)).mpr rfl⟩
def zgg(H H':Hp):Prop:=∀ b xs,H b=some (.tup xs)->H' b=some (.tup xs)
theorem GoodV.keep{H H':Hp}(k:zgg H H'):∀ {n:Nat} {v:V},GoodV n H v->GoodV n H' v
 | 0,_,h=>h
 | _+1,.int _,_=>trivial
 | _+1,.non,_=>trivial
 | _+1,.str _,h=>h
 | n+1,.ref p,⟨xs,h1,h2,h3⟩=>⟨xs,k _ _ h1,h2,λv hv=>(h3 v hv).keep k⟩
theorem Same.tk{H H':Hp}(s:Same H H'):zgg H H':=λb xs e=>s _ _ e
theorem zafx{v:V}{vl:Addr}{xs:List V}(hg:GoodV 4 H v)(hv:H vl=some (.tup xs))(hx:∀ z∈xs,zac6 z)(q:Q (.bl (decide (v∈xs))) H):rInB K v (.ref vl) H Q:=by
  have fx:xs.all zov=true:=List.all_eq_true.mpr λz hz=>by rcases hx z hz with rfl | ⟨i,rfl⟩<;>rfl
  have flat:zov v=true->rInB K v (.ref vl) H Q:=λhf=>.inl ⟨vl,xs,rfl,.inr (SqT.of hv),hf,fx,by
    show Q (.bl (inV v xs)) H
    rw[zac8 hx hg hf];exact q⟩
  cases v with
  | ref t =>
    obtain⟨ys,e,_⟩:=hg
    have:decide ((V.ref t)∈xs)=false:=decide_eq_false λhm=>by rcases hx _ hm with z | ⟨i,z⟩<;>cases z
    rw[this]at q
    exact .inr ⟨t,ys,vl,xs,rfl,SqT.of e,rfl,SqT.of hv,hx,q⟩
  | int i=>exact flat rfl
  | non=>exact flat rfl
  | str z=>exact flat rfl
  | _=>exact hg.elim
theorem zpx(h:za6 K a vs H Q E):zgt K a (λ_=>E) (ends Q) (zbu ["hold","places","values","k","place"] vs) H:=by
  obtain⟨A,w,rows,n,cs,outs,pl,vl,ts,xs,f,m,rfl,T,TP,B,hp,hm,hm2,hv,hx,hf,q,qe⟩:=h
  obtain⟨dx,ho⟩:=B.bk.ob
  push_cast[zgt,↓zlg]
  refine⟨⟨_,SqL.of hp⟩,zabh (xs:=ts.map V.ref) (λi σ H'=>(Same H H'/\∀ j<i,f j=false)/\∃ x y,σ=[some (.ref A.b),some (.ref pl),some (.ref vl),x,y]) ⟨⟨Same.refl _,λj hj=>absurd hj (Nat.not_lt_zero _)⟩,_,_,rfl⟩ (λi σ H' _ ⟨⟨s,_⟩,_⟩=>SqL.of (s _ _ hp)) (λi x σ H' t hx' ⟨⟨s,lo⟩,x0,y0,ez⟩ ht=> ?_) (λσ H' ⟨⟨s,lo⟩,x0,y0,ez⟩=> ?_)⟩
  · subst ez
    rw[List.getElem?_map]at hx'
    cases et:ts[i]? with
    | none=>rw[et]at hx';cases hx'
    | some tt =>
      rw[et]at hx'
      cases hx'
      obtain⟨bi,bj,v,e1,on,ev,gv,ef⟩:=hf i tt et
      have s2:=s.trans (zaj (o:=.tup [.int (i:Int),.ref tt]) ht)
      push_cast[]
      refine⟨_,SqT.of zac,rfl,_,_,rfl,_,_,rfl,rfl,?_⟩
      revert s2
      generalize upd H' t (.tup [.int (i:Int),.ref tt])=H2
      intro s2
      push_cast[↓zlf,↓zle]
      refine⟨_,_,s2 _ _ ho,zo0 (by decide +kernel),A,w,rows,n,cs,outs,tt,bi,bj,rfl,T,TP,B.same s2,s2 _ _ e1,λ_ v' H3 ev' s3=> ?_,λz=>absurd on z⟩
      rw[ev]at ev'
      cases ev'
      have s4:=s2.trans s3
      refine zafx (gv.keep s4.tk) (s4 _ _ hv) hx ?_
      rw[<-ef]
      push_cast[]
      cases hfi:f i with
      | true=>exact q i (zadu (by have:=(List.getElem?_eq_some_iff.mp et).1;omega) hfi lo) _ s4
      | false=>exact⟨s4,λj hj=>by
          rcases Nat.lt_or_ge j i with z | z
          ·exact lo j z
          ·rw[show j=i by omega];exact hfi⟩
  · subst ez
    push_cast[↓zlh]
    rw[List.length_map,hm]at lo
    exact⟨by decide,qe (zys lo) _ s⟩
theorem zrd(h:za6 K a vs H Q E):vs.length=3:=by
 obtain⟨_,_,_,_,_,_,_,_,_,_,_,_,rfl,_⟩:=h
 rfl
theorem zlq {m w:Nat} {B:Nat->Int} {te:TE} {cap:List Nat} {σ:St} {H:Hp} {Q:VK} (hm:m<=1000) (ht:∀ i H' Q',i<m->Same H H'->zot (B i) (i % w:Nat) Q' H'->te (some (.int (0+(i:Int)))::capV cap σ) H' Q')
    (q:∀ (ts:List Addr) (H':Hp) (l:Addr),ts.length=m->Same H H'->(∀ k t,ts[k]? =some t->H' t=some (.tup [.int (B k),.int (k % w:Nat)]))->H' l=some (.lst (ts.map V.ref))->Q (.ref l) H'):zts (Itr 0 m) (zaz 0) zlu te 1 cap σ H Q:=by
  refine zjw (zm1 m (by omega)) (λi ys H'=>Same H H'/\∃ ts:List Addr,ys=ts.map V.ref/\ts.length=i/\∀ k t,ts[k]? =some t->H' t=some (.tup [.int (B k),.int (k % w:Nat)])) ⟨Same.refl _,[],rfl,rfl,λk t h=>by simp at h⟩ (λi ys H' hi hl ⟨s,ts,e,el,h⟩=> ?_) λys H' hl ⟨s,ts,e,el,h⟩ l hl'=> ?_
  · refine ht i H' _ hi s λt htn=> ?_
    have st:=zaj (o:=.tup [.int (B i),.int (i % w:Nat)]) htn
    refine⟨s.trans st,ts++[t],by rw[e,List.map_append];rfl,by simp[el],λk t' hk=> ?_⟩
    rcases Nat.lt_or_ge k ts.length with z | z
    · rw[List.getElem?_append_left z]at hk
      exact st _ _ (h k t' hk)
    · rw[List.getElem?_append_right z]at hk
      have hk0:k - ts.length=0:=by
        rcases Nat.eq_zero_or_pos (k - ts.length)with z | z
        ·exact z
        ·rw[List.getElem?_eq_none (by simp;omega)]at hk;cases hk
      rw[hk0]at hk
      cases hk
      have:k=i:=by omega
      subst this
      exact zac
  · subst e
    have st:=zaj (o:=.lst (ts.map V.ref)) hl'
    exact q ts _ l (by simpa using hl) (s.trans st) (λk t hk=>st _ _ (h k t hk)) zac
theorem zadv{rows:List (List V)}{w i j:Nat}(hw:∀ r∈rows,r.length=w)(hi:i<rows.length)(hj:j<w)(cs:List Ch):∃ v,zec cs rows i j=some v:=by
  unfold zec
  cases e:zb4 cs i j with
  | some k =>
    have:=zhd e
    exact⟨_,by show(cs[k]?).map _=_;rw[List.getElem?_eq_getElem this];rfl⟩
  | none =>
    have er:=List.getElem?_eq_getElem hi
    have hl:=hw _ (List.mem_of_getElem? er)
    exact⟨rows[i][j],by show(rows[(i:Int).toNat]?).bind (λr=>r[(j:Int).toNat]?)=_;rw[Int.toNat_natCast,Int.toNat_natCast,er];exact List.getElem?_eq_getElem (by omega)⟩
theorem zabl{n r c w kind k:Nat}(hk:kind<3)(h:k<zcg n r c w kind):kBlk n r c w kind k<n+r+c+r+c:=by
 unfold zcg at h
 unfold kBlk
 have hd:k / w<(if kind=0 then n else if kind=1 then r else if kind=2 then c else if kind=3 then r else c):=Nat.div_lt_of_lt_mul (by rw[Nat.mul_comm];exact h)
 rcases(by omega:kind=0\/kind=1\/kind=2)with z | z | z<;>subst z<;>simp at hd ⊢ <;>omega
theorem zt9{n r c w kind k:Nat}(h:k<zcg n r c w kind):1<=w:=by
 unfold zcg at h
 rcases Nat.eq_zero_or_pos w with z | z
 ·rw[z,Nat.mul_zero]at h;omega
 ·exact z
theorem zj0{n r c w kind:Nat}(h1:n<=6)(h2:r<=6)(h3:c<=6)(h4:w<=6):zcg n r c w kind<=36:=by
 unfold zcg
 have h:(if kind=0 then n else if kind=1 then r else if kind=2 then c else if kind=3 then r else c)<=6:=by
  split<;>(try split)<;>(try split)<;>(try split)<;>omega
 exact Nat.mul_le_mul h h4
def zof(kind:Nat):List V:=if kind=0 then [.non]else [.non,.int 0]
theorem zabm(kind:Nat)(v:V):decide (v∈zof kind)=zxh kind v:=by
 unfold zof zxh
 by_cases h:kind=0
 ·subst h;simp
 ·rw[if_neg h];simp[Nat.pos_of_ne_zero h]
theorem zua{kind:Nat}{A:BA}{n r c w:Nat}{rows:List (List V)}{nn:Nat}{cs:List Ch}{outs:Int->Bool}{ts:List Addr}{l:Addr}{H':Hp}(hk:kind<3)(T:TB K a)(TP:zc0 K a)(s:Same H H')(B:BkAt a H A w rows nn cs outs)(hM:rows.length=n+r+c+r+c)(h1:n<=6)(h2:r<=6)(h3:c<=6)(h4:w<=6)
  (gh:∀ i j v,zec cs rows i j=some v->GoodV 4 H v) (hts:ts.length=zcg n r c w kind) (ht:∀ k t,ts[k]? =some t->H' t=some (.tup [.int (kBlk n r c w kind k:Nat),.int (k % w:Nat)])) (el:H' l=some (.lst (ts.map V.ref)))
  (q:∀ k:Nat,lowF (zo1 cs rows n r c w kind) (zcg n r c w kind)=k->∀ H',Same H H'->Q (.int k) H') (qe:lowF (zo1 cs rows n r c w kind) (zcg n r c w kind)= -1->∀ H',Same H H'->E (.ref (a "NoRoom")) none H') :
  ∀ u,H' u=none->za6 K a [.ref A.b,.ref l,.ref u] (upd H' u (.tup (zof kind))) Q E:=λu hu=>by
 have su:=zaj (o:=.tup (zof kind)) hu
 have s2:=s.trans su
 refine⟨A,w,rows,nn,cs,outs,l,u,ts,zof kind,zo1 cs rows n r c w kind,zcg n r c w kind,rfl,T,TP,B.same s2,su _ _ el,hts,by have:=zj0 (kind:=kind) h1 h2 h3 h4;omega,zac,λz hz=> ?_,λk t hkt=> ?_,λk hk' H3 s3=>q k hk' H3 (s2.trans s3),λhk' H3 s3=>qe hk' H3 (s2.trans s3)⟩
 ·unfold zof at hz
  split at hz<;>simp at hz
  ·exact .inl hz
  ·rcases hz with z | z
   ·exact .inl z
   ·exact .inr ⟨0,z⟩
 ·have hlt:k<zcg n r c w kind:=by have:=(List.getElem?_eq_some_iff.mp hkt).1;omega
  have hb:=zabl hk hlt
  have hw:=zt9 hlt
  have hj:k % w<w:=Nat.mod_lt _ (by omega)
  obtain⟨v,ev⟩:=zadv (λr' hr'=>B.pk.wd r' hr') (show kBlk n r c w kind k<rows.length by omega) hj cs
  refine⟨_,_,v,su _ _ (ht k t hkt),⟨by omega,by omega,by omega,by omega⟩,ev,(gh _ _ _ ev).keep s2.tk,?_⟩
  unfold zo1
  rw[ev,zabm]
theorem zr8(h:zdn K a vs H Q E):zhu K a (λ_=>E) (ends Q) (zbu ["layout","hold","places"] vs) H:=by
 obtain⟨p,b,rfl,A,n,r,c,w,rows,nn,cs,outs,rfl,T,TP,TL,L,h1,h2,h3,h4,B,hM,gh,q,qe⟩:=h
 obtain⟨dx,e⟩:=L.ob
 push_cast[zhu,↓zny,↓znz]
 refine⟨_,_,e,zgw (by decide +kernel),p,n,r,c,w,rfl,TL,L,λt ht=> ?_⟩
 have s1:=zaj (o:=.tup [V.int ((n:Int) * w),V.int ((r:Int) * w),V.int ((c:Int) * w)]) ht
 refine zge zac (n:=0) rfl rfl ?_
 revert s1
 generalize upd H t (.tup [V.int ((n:Int) * w),V.int ((r:Int) * w),V.int ((c:Int) * w)])=H1
 intro s1
 have hk:=zj0 (kind:=0) h1 h2 h3 h4
 have em:(n:Int) * w=(zcg n r c w 0:Nat):=by unfold zcg;simp
 rw[em]
 push_cast[]
 refine⟨by omega,by omega,zlq (B:=λk=>(kBlk n r c w 0 k:Nat)) (w:=w) (by omega) (λi H' Q' hi s' q'=> ?_) λts H' l hts s' htt el=> ?_⟩
 ·push_cast[capV]
  refine⟨_,_,s' _ _ (s1 _ _ e),zgw (by decide +kernel),p,n,r,c,w,i,(by simp),TL,(L.same s1).same s',?_⟩
  unfold kBlk at q'
  simpa using q'
 ·push_cast[]
  exact⟨by decide,zua (kind:=0) (by decide) T TP (s1.trans s') B hM h1 h2 h3 h4 gh hts htt el q qe⟩
theorem zub(h:zdn K a vs H Q E):vs.length=2:=by
 obtain⟨_,_,rfl,_⟩:=h
 rfl
theorem zpy(h:zcp K a vs H Q E):zgu K a (λ_=>E) (ends Q) (zbu ["layout","hold","marks"] vs) H:=by
 obtain⟨p,b,rfl,A,n,r,c,w,rows,nn,cs,outs,rfl,T,TP,TL,L,h1,h2,h3,h4,B,hM,gh,q,qe⟩:=h
 obtain⟨dx,e⟩:=L.ob
 push_cast[zgu,↓zlk,↓zll]
 refine⟨_,_,e,zgw (by decide +kernel),p,n,r,c,w,rfl,TL,L,λt ht=> ?_⟩
 have s1:=zaj (o:=.tup [V.int ((n:Int) * w),V.int ((r:Int) * w),V.int ((c:Int) * w)]) ht
 refine zge zac (n:=1) rfl rfl ?_
 revert s1
 generalize upd H t (.tup [V.int ((n:Int) * w),V.int ((r:Int) * w),V.int ((c:Int) * w)])=H1
 intro s1
 have hk:=zj0 (kind:=1) h1 h2 h3 h4
 have em:(r:Int) * w=(zcg n r c w 1:Nat):=by unfold zcg;simp
 rw[em]
 push_cast[]
 refine⟨by omega,by omega,zlq (B:=λk=>(kBlk n r c w 1 k:Nat)) (w:=w) (by omega) (λi H' Q' hi s' q'=> ?_) λts H' l hts s' htt el=> ?_⟩
 ·push_cast[capV]
  refine⟨_,_,s' _ _ (s1 _ _ e),zgw (by decide +kernel),p,n,r,c,w,i,(by simp),TL,(L.same s1).same s',?_⟩
  unfold kBlk at q'
  simpa using q'
 ·push_cast[]
  exact⟨by decide,zua (kind:=1) (by decide) T TP (s1.trans s') B hM h1 h2 h3 h4 gh hts htt el q qe⟩
theorem zre(h:zcp K a vs H Q E):vs.length=2:=by
 obtain⟨_,_,rfl,_⟩:=h
 rfl
theorem zrf(h:zc6 K a vs H Q E):zg7 K a (λ_=>E) (ends Q) (zbu ["layout","hold","marks"] vs) H:=by
 obtain⟨p,b,rfl,A,n,r,c,w,rows,nn,cs,outs,rfl,T,TP,TL,L,h1,h2,h3,h4,B,hM,gh,q,qe⟩:=h
 obtain⟨dx,e⟩:=L.ob
 push_cast[zg7,↓zmo,↓zmp]
 refine⟨_,_,e,zgw (by decide +kernel),p,n,r,c,w,rfl,TL,L,λt ht=> ?_⟩
 have s1:=zaj (o:=.tup [V.int ((n:Int) * w),V.int ((r:Int) * w),V.int ((c:Int) * w)]) ht
 refine zge zac (n:=2) rfl rfl ?_
 revert s1
 generalize upd H t (.tup [V.int ((n:Int) * w),V.int ((r:Int) * w),V.int ((c:Int) * w)])=H1
 intro s1
 have hk:=zj0 (kind:=2) h1 h2 h3 h4
 have em:(c:Int) * w=(zcg n r c w 2:Nat):=by unfold zcg;simp
 rw[em]
 push_cast[]
 refine⟨by omega,by omega,zlq (B:=λk=>(kBlk n r c w 2 k:Nat)) (w:=w) (by omega) (λi H' Q' hi s' q'=> ?_) λts H' l hts s' htt el=> ?_⟩
 ·push_cast[capV]
  refine⟨_,_,s' _ _ (s1 _ _ e),zgw (by decide +kernel),p,n,r,c,w,i,(by simp),TL,(L.same s1).same s',?_⟩
  unfold kBlk at q'
  simpa using q'
 ·push_cast[]
  exact⟨by decide,zua (kind:=2) (by decide) T TP (s1.trans s') B hM h1 h2 h3 h4 gh hts htt el q qe⟩
theorem zr9(h:zc6 K a vs H Q E):vs.length=2:=by
 obtain⟨_,_,rfl,_⟩:=h
 rfl
theorem zv7(h:zfx K a vs H Q E):zjz K a (λ_=>E) (ends Q) (zbu ["kind","layout","hold"] vs) H:=by
 obtain⟨p,b,kind,rfl,hk,h⟩:=h
 push_cast[zjz,↓zqx,↓zqy,↓zqz,↓zq0,↓zq1]
 rcases(by omega:kind=0\/kind=1\/kind=2)with z | z | z<;>subst z
 ·rw[if_pos (by decide)];exact⟨p,b,rfl,h⟩
 ·rw[if_neg (by decide),if_pos (by decide)];exact⟨p,b,rfl,h⟩
 ·rw[if_neg (by decide),if_neg (by decide)];exact⟨p,b,rfl,h⟩
theorem zxt(h:zfx K a vs H Q E):vs.length=3:=by
 obtain⟨_,_,_,rfl,_⟩:=h
 rfl
theorem zsa(h:zdo K a vs H Q E):zhw K a (λ_=>E) (ends Q) (zbu ["kind","layout","hold","due","found","right","other","e"] vs) H:=by
 obtain⟨p,A,kind,n,r,c,w,rows,nn,cs,outs,rfl,hk,T,TP,TL,X,L,h1,h2,h3,h4,B,hM,gh,q⟩:=h
 push_cast[zhw,↓zn0,↓zn1,↓zn2,↓zn3,↓zn6]
 refine⟨p,A.b,kind,rfl,hk,A,n,r,c,w,rows,nn,cs,outs,rfl,T,TP,TL,L,h1,h2,h3,h4,B,hM,gh,λk ek H' s=> ?_,λek H' s=> ?_⟩
 ·rw[ek]
  push_cast[↓zh8,↓zh9,↓zhv]
  rw[if_neg (by omega)]
  refine zjx (.inl (.int _)) (.ty _) (b:=true) rfl ?_
  push_cast[]
  refine zjx (.inl (.int _)) (.ty _) (b:=false) rfl ?_
  push_cast[]
  exact q _ s
 ·rw[ek]
  refine .inl ⟨X.hit,λe he=> ?_⟩
  have se:=zaj (o:=.ext (zru e (.ref (a "NoRoom")))) he
  have ty:TyX K (upd H' e (.ext (zru e (.ref (a "NoRoom"))))) (.ref e) (.ref (a "NoRoom")):=.inr ⟨e,a "NoRoom",rfl,rfl,zac,X.ec⟩
  push_cast[↓zn4,↓zn5]
  refine zjx ty (.own _) X.is ⟨true,rfl,iteT (zjx ty (.ty _) X.iv ?_)⟩
  refine⟨by decide,λu hu=> ?_⟩
  have su:=zaj (o:=.tup [V.ref (a "NoBlock"),V.ref (a "NoChange"),V.ref (a "NoName"),V.ref (a "NoPiece"),V.ref (a "NoRow"),V.ref (a "NotSound"),V.ref (a "Twice")]) hu
  refine zza (.inr ⟨e,a "NoRoom",rfl,rfl,su _ _ zac,X.ec⟩) (SqT.of zac) (.cons (.own _) (.cons (.own _) (.cons (.own _) (.cons (.own _) (.cons (.own _) (.cons (.own _) (.cons (.own _) .nil))))))) X.no ?_
  push_cast[↓zh8,↓zh9,↓zhv]
  exact q _ ((s.trans se).trans su)
theorem zuc(h:zdo K a vs H Q E):vs.length=4:=by
 obtain⟨_,_,_,_,_,_,_,_,_,_,_,rfl,_⟩:=h
 rfl
theorem zud:∀ {n:Nat} {v:V},GoodV n H v->∃ d,Dat K H n v d
  | _+1,.int i,_=>⟨_,Dat.int i⟩
  | _+1,.non,_=>⟨_,Dat.non⟩
  | _+1,.str z,h=>⟨.str z,.str z,h,Nat.zero_le _⟩
  | n + 1,.ref p,⟨xs,h1,h2,h3⟩=>by
    have:∀ (l:List V),(∀ v∈l,GoodV n H v)->∃ ds,Paired (Dat K H n) l ds:=λl=>by
      induction l with
      | nil=>exact λ_=>⟨[],.nil⟩
      | cons x r ih =>
        intro h
        obtain⟨d,hd⟩:=zud (h x (List.mem_cons_self ..))
        obtain⟨ds,hds⟩:=ih λv hv=>h v (List.mem_cons_of_mem _ hv)
        exact⟨d::ds,.cons hd hds⟩
    obtain⟨ds,hds⟩:=this xs h3
    exact⟨_,Dat.tup (SqT.of h1) hds⟩
theorem zv8{n:Nat}{l:List V}(h:∀ v∈l,GoodV n H v):∃ ds,Paired (Dat K H n) l ds:=by
  induction l with
  | nil=>exact⟨[],.nil⟩
  | cons x r ih =>
    obtain⟨d,hd⟩:=zud (K:=K) (h x (List.mem_cons_self ..))
    obtain⟨ds,hds⟩:=ih λv hv=>h v (List.mem_cons_of_mem _ hv)
    exact⟨d::ds,.cons hd hds⟩
theorem zafy{v:V}(hg:GoodV 4 H v)(q:Q (.bl (decide (v=.int 0))) H):rEqA K v (.int 0) H Q:=by
  cases v with
  | int i=>rw[zadm];simpa using q
  | non=>simpa [rEqA,scal]using q
  | str z=>simpa [rEqA,scal]using q
  | ref p =>
    obtain⟨xs,h1,h2,h3⟩:=hg
    obtain⟨ds,hds⟩:=zv8 (K:=K) h3
    have D:=Dat.tup (SqT.of h1) hds
    unfold rEqA
    rw[if_neg (by simp[scal])]
    refine⟨_,_,D.1,.int 0,D.shp (by decide),(Dat.int (K:=K) (H:=H) (n:=0) 0).shp (by decide),?_⟩
    simpa [PyData.eqv]using q
  | _=>exact hg.elim
theorem zrg (h:zc5 K a vs H Q E):zg5 K a (λ_=>E) (ends Q) (zbu ["layout","hand","kind","k","value"] vs) H:=by
  obtain⟨p,hd,n,r,c,w,kind,cs,rows,rfl,TL,L,hk,h1,h2,h3,h4,hM,hD,gH,gh,q⟩:=h
  obtain⟨dx,e⟩:=L.ob
  obtain⟨kvs,ed,_,_,hv⟩:=hD
  push_cast[zg5,↓zmd]
  refine⟨_,_,e,zgw (by decide +kernel),p,n,r,c,w,rfl,TL,L,λt ht=> ?_⟩
  have s1:=zaj (o:=.tup [V.int ((n:Int) * w),V.int ((r:Int) * w),V.int ((c:Int) * w)]) ht
  have hkm:=zj0 (kind:=kind) h1 h2 h3 h4
  have em:([V.int ((n:Int) * w),V.int ((r:Int) * w),V.int ((c:Int) * w)])[kind]? =some (.int (zcg n r c w kind:Nat)):=by
    unfold zcg
    rcases(by omega:kind=0\/kind=1\/kind=2)with z | z | z<;>subst z<;>simp
  refine zge zac (n:=kind) rfl em ⟨_,rfl,by omega,by omega,?_⟩
  revert s1
  generalize upd H t (.tup [V.int ((n:Int) * w),V.int ((r:Int) * w),V.int ((c:Int) * w)])=H1
  intro s1
  rw[Int.toNat_natCast]
  refine zfw (λi σ H'=>(Same H H'/\∀ j<i,zo1 cs rows n r c w kind j=false)/\∃ x y,σ=[some (.ref p),some (.ref hd),some (.int kind),x,y]) ⟨⟨s1,λj hj=>absurd hj (Nat.not_lt_zero _)⟩,_,_,rfl⟩ (λi σ H' hi ⟨⟨s,lo⟩,x,y,ez⟩=> ?_) (λσ H' ⟨⟨s,lo⟩,x,y,ez⟩=> ?_)
  · subst ez
    push_cast[↓zma,↓zmb,↓zmc]
    have hb:=zabl hk hi
    have hw:=zt9 hi
    have hj:i % w<w:=Nat.mod_lt _ (by omega)
    refine⟨p,n,r,c,w,kind,i,(by simp),TL,L.same s,by omega,λt2 ht2=> ?_⟩
    obtain⟨v,ev,iv⟩:=hv (kBlk n r c w kind i:Nat) (i % w:Nat) ⟨by omega,by omega,by omega,by omega⟩
    have s2:=s.trans (zaj (o:=.tup [.int (kBlk n r c w kind i:Nat),.int (i % w:Nat)]) ht2)
    refine⟨_,dT2' (s2 _ _ ed) zac ev,?_⟩
    revert s2
    generalize upd H' t2 (.tup [.int (kBlk n r c w kind i:Nat),.int (i % w:Nat)])=H2
    intro s2
    have gv:=(gh _ _ _ iv).keep s2.tk
    have fk:zo1 cs rows n r c w kind i=zxh kind v:=by unfold zo1;rw[iv]
    have stop:zxh kind v=true->Q (.int (0+(i:Int))) H2:=λh=>by
      have:=q _ s2
      rw[zadu hi (fk.trans h) lo]at this
      rw[Int.zero_add];exact this
    have go:zxh kind v=false->Same H H2/\∀ j:Nat,j<i+1->zo1 cs rows n r c w kind j=false:=λh=>⟨s2,λj hj=>by
      rcases Nat.lt_or_ge j i with z | z
      ·exact lo j z
      ·rw[show j=i by omega];exact fk.trans h⟩
    unfold zxh at stop go
    split
    · rename_i z
      exact stop (by simp[z])
    · rename_i z
      split
      · rename_i z2
        have z2:0<kind:=by omega
        refine zafy gv ?_
        push_cast[]
        by_cases z3:v=.int 0
        ·rw[if_pos z3];exact stop (by simp[z2,z3])
        ·rw[if_neg z3];exact go (by simp[z,z3])
      · rename_i z2
        exact go (by simp[z];omega)
  · subst ez
    push_cast[↓zme]
    have:=q _ s
    rw[zys lo]at this
    exact this
theorem zsb(h:zc5 K a vs H Q E):vs.length=3:=by
 obtain⟨_,_,_,_,_,_,_,_,_,rfl,_⟩:=h
 rfl
theorem zmv{cs:List Ch}{rows:List (List V)}(g:goodH H cs rows){i j:Int}{v:V}(h:zec cs rows i j=some v):GoodV 4 H v:=by
  unfold zec at h
  cases e:zb4 cs i j with
  | some k =>
    rw[e]at h
    have h:(cs[k]?).map (·.val)=some v:=h
    cases ec:cs[k]? with
    | none=>rw[ec]at h;cases h
    | some c =>
      rw[ec]at h
      cases h
      exact g.2 c (List.mem_of_getElem? ec)
  | none =>
    rw[e]at h
    have h:(rows[i.toNat]?).bind (λr=>r[j.toNat]?)=some v:=h
    cases er:rows[i.toNat]? with
    | none=>rw[er]at h;cases h
    | some r =>
      rw[er]at h
      exact g.1 r (List.mem_of_getElem? er) v (List.mem_of_getElem? h)
theorem goodH.keep{H H':Hp}{cs:List Ch}{rows:List (List V)}(g:goodH H cs rows)(k:zgg H H'):goodH H' cs rows:=⟨λr hr v hv=>(g.1 r hr v hv).keep k,λc hc=>(g.2 c hc).keep k⟩
theorem HandD.same{H H':Hp}{hd:Addr}{cs:List Ch}{rows:List (List V)}{w:Nat}(D:HandD H hd cs rows w)(s:Same H H'):HandD H' hd cs rows w:=by
 obtain⟨kvs,e,r⟩:=D
 exact⟨kvs,s _ _ e,r⟩
theorem zmw(h:zbn K a vs H Q E):zfq K a (λ_=>E) (ends Q) (zbu ["layout","hold","hand","number","k","kind"] vs) H:=by
 obtain⟨p,hd,A,n,r,c,w,rows,nn,cs,outs,x,rfl,hx,T,TP,TL,X,L,h1,h2,h3,h4,B,hM,hD,gH,q⟩:=h
 push_cast[zfq,↓zjk]
 refine⟨by decide,by decide,?_⟩
 refine zfw (λi σ H'=>Same H H'/\∃ y z,σ=[some (.ref p),some (.ref A.b),some (.ref hd),some (.int x),y,z]) ⟨Same.refl _,_,_,rfl⟩ (λi σ H' hi ⟨s,y,z,ez⟩=> ?_) (λσ H' ⟨s,y,z,ez⟩=> ?_)
 ·subst ez
  push_cast[↓zjh,↓zji,↓zjj]
  obtain⟨kind,ek,hk⟩:∃ kind:Nat,(x+(0+(i:Int)) * (1+x / 3 % 2)) % 3=kind/\kind<3:=⟨((x+(0+(i:Int)) * (1+x / 3 % 2)) % 3).toNat,by omega,by omega⟩
  rw[ek]
  refine⟨⟨by omega,by omega⟩,.inl ⟨by omega,by omega⟩,p,hd,n,r,c,w,kind,cs,rows,rfl,TL,L.same s,hk,h1,h2,h3,h4,hM,hD.same s,gH.keep s.tk,λi j v h=>zmv (gH.keep s.tk) h,λH2 s2=> ?_⟩
  have s3:=s.trans s2
  refine⟨p,A,kind,n,r,c,w,rows,nn,cs,outs,rfl,hk,T,TP,TL,X,L.same s3,h1,h2,h3,h4,B.same s3,hM,λi j v h=>zmv (gH.keep s3.tk) h,λH4 s4=> ?_⟩
  push_cast[]
  exact s3.trans s4
 ·subst ez
  push_cast[↓zjl]
  exact q _ s
theorem zog(h:zbn K a vs H Q E):vs.length=4:=by
 obtain⟨_,_,_,_,_,_,_,_,_,_,_,_,rfl,_⟩:=h
 rfl
theorem zgv{α β :Type}{F G: α -> β ->Prop}:∀ {rs:List α} {rows:List β},Paired F rs rows->(∀ x∈rs,∀ r,F x r->G x r)->Paired G rs rows
 | _,_,.nil,_=>.nil
 | _,_,.cons h t,k=>.cons (k _ (List.mem_cons_self ..) _ h) (zgv t λx hx r z=>k x (List.mem_cons_of_mem _ hx) r z)
theorem zoh{α β :Type}{F G: α -> β ->Prop}{l: α}{r': β}:∀ {rs:List α} {rows:List β} {b:Nat},rs.Nodup->Paired F rs rows->rs[b]? =some l->(∀ x r,x≠l->F x r->G x r)->G l r'->Paired G rs (rows.set b r')
  | _,_,b,_,.nil,h,_,_=>by simp at h
  | x::rs,r::rows,0,nd,.cons h t,e,k,g=>by
    cases e
    exact .cons g (zgv t λy hy s z=>k y s (λz2=>(List.nodup_cons.mp nd).1 (z2 ▸ hy)) z)
  | x::rs,r::rows,b+1,nd,.cons h t,e,k,g=>by
    have e:rs[b]? =some l:=e
    exact .cons (k x r (λz=>(List.nodup_cons.mp nd).1 (z ▸ List.mem_of_getElem? e)) h) (zoh (List.nodup_cons.mp nd).2 t e k g)
theorem RowsM.put{rl l:Addr}{rs:List Addr}{rows:List (List V)}{b:Nat}{row':List V}(R:RowsM H rl rs rows)(e:rs[b]? =some l):RowsM (upd H l (.lst row')) rl rs (rows.set b row'):=by
 obtain⟨h1,h2,h3,h4⟩:=R
 have hl:=List.mem_of_getElem? e
 exact⟨by rw[zag (show rl≠l from λz=>h3 (z ▸ hl))];exact h1,h2,h3,zoh h2 h4 e (λx r n z=>by rw[zag n];exact z) zac⟩
theorem RowsM.same{H H':Hp}{rl:Addr}{rs:List Addr}{rows:List (List V)}(R:RowsM H rl rs rows)(s:Same H H'):RowsM H' rl rs rows:=⟨s _ _ R.1,R.2.1,R.2.2.1,Paired.mapP R.2.2.2 λl r z=>s _ _ z⟩
theorem RowsM.at{rl:Addr}{rs:List Addr}{rows:List (List V)}{b:Nat}{row:List V}(R:RowsM H rl rs rows)(e:rows[b]? =some row):∃ l,rs[b]? =some l/\H l=some (.lst row):=by
 obtain⟨l,e1,e2⟩:=zfm R.2.2.2 e
 exact⟨l,e1,e2⟩
theorem RowsM.lst{rl:Addr}{rs:List Addr}{rows:List (List V)}(R:RowsM H rl rs rows){x:Addr}(hx:x∈rs):∃ xs,H x=some (.lst xs):=by
 obtain⟨b,e⟩:=ztb hx
 have hl:=R.2.2.2.length
 have hb:b<rows.length:=by have:=(List.getElem?_eq_some_iff.mp e).1;omega
 obtain⟨l,e1,e2⟩:=R.at (List.getElem?_eq_getElem hb)
 rw[e]at e1;cases e1
 exact⟨_,e2⟩
theorem RowsM.ix{rl:Addr}{rs:List Addr}{rows:List (List V)}{b:Nat}{row:List V}{i:Int}{Q:VK}(R:RowsM H rl rs rows)(e:rows[b]? =some row)(hi:i=b)(q:∀ l,rs[b]? =some l->H l=some (.lst row)->Q (.ref l) H):rIxA K (.ref rl) (.int i) H Q:=by
 obtain⟨l,e1,e2⟩:=R.at e
 exact zh5 (SqL.of R.1) hi (by rw[List.getElem?_map,e1];rfl) (q l e1 e2)
theorem ixNn{n b:Nat}(h:b<n):ixN n (b:Int)=some b:=by
 unfold ixN
 rw[if_pos (by omega),if_pos (by omega)];simp
theorem zyt{n r c w kind k:Nat}(hk:kind<5)(h:k<zcg n r c w kind):kBlk n r c w kind k<n+r+c+r+c:=by
 unfold zcg at h
 unfold kBlk
 have hd:k / w<(if kind=0 then n else if kind=1 then r else if kind=2 then c else if kind=3 then r else c):=Nat.div_lt_of_lt_mul (by rw[Nat.mul_comm];exact h)
 rcases(by omega:kind=0\/kind=1\/kind=2\/kind=3\/kind=4)with z | z | z | z | z<;>subst z<;>simp at hd ⊢ <;>omega
def zxu(H:Hp)(rl:Addr)(rs:List Addr)(w m:Nat)(H':Hp):Prop:=∃ rows,rows.length=m/\(∀ r∈rows,r.length=w)/\RowsM H' rl rs rows/\zabk H' rows/\SameBut (λx=>x∈rs) H H'
theorem zabn{n r c w kind:Nat}(hk:kind<5):([V.int ((n:Int) * w),V.int ((r:Int) * w),V.int ((c:Int) * w)])[(if kind=0 then 0 else if kind=1\/kind=3 then 1 else 2)]? =some (.int (zcg n r c w kind:Nat)):=by
 unfold zcg
 rcases(by omega:kind=0\/kind=1\/kind=2\/kind=3\/kind=4)with z | z | z | z | z<;>subst z<;>simp
theorem ziq{c t:Int}:0<=mill c t:=by
 unfold mill
 omega
theorem zafz {p rl s t:Addr} {rs:List Addr} {n r c w kind full:Nat} {cell:Int} {H1 H':Hp} {M:Nat} {x6 y8 y9 y10:Option V} {D:Ends} (TL:TLay K a) (L1:LayAt a H1 p n r c w) (np:p∉rs) (hk:kind<5) (g2:1<=r) (g3:1<=c) (h1:n<=6) (h2:r<=6) (h3:c<=6) (h4:w<=6) (hM:M=n+r+c+r+c) (hf:full<=zcg n r c w kind) (I:zxu H1 rl rs w M H')
    (q:∀ H2 y8 y9 y10,zxu H1 rl rs w M H2->D.nx [some (.ref p),some (.ref rl),some (.ref s),some (.ref t),some (.int cell),some (.int kind),x6,some (.int full),y8,y9,y10] H2) :
    rd_law_laid_9 K a (λ_=>E) (λ_=>E) D [some (.ref p),some (.ref rl),some (.ref s),some (.ref t),some (.int cell),some (.int kind),x6,some (.int full),y8,y9,y10] H':=by
  have hkm:=zj0 (kind:=kind) h1 h2 h3 h4
  push_cast[↓zpc]
  refine⟨by omega,by omega,?_⟩
  refine zfw (λi σ H2=>zxu H1 rl rs w M H2/\∃ y8 y9 y10,σ=[some (.ref p),some (.ref rl),some (.ref s),some (.ref t),some (.int cell),some (.int kind),x6,some (.int full),y8,y9,y10]) ⟨I,_,_,_,rfl⟩ (λi σ H2 hi ⟨J,y8,y9,y10,ez⟩=> ?_) (λσ H2 ⟨J,y8,y9,y10,ez⟩=> ?_)
  · subst ez
    obtain⟨rows,e1,e2,R,g,sb⟩:=J
    have hlt:i<zcg n r c w kind:=by omega
    have hb:=zyt hk hlt
    have hw:=zt9 hlt
    have hj:i % w<w:=Nat.mod_lt _ (by omega)
    have L2:=L1.sb sb np
    push_cast[↓zpa,↓zpb,Int.zero_add]
    refine⟨p,n,r,c,w,kind,i,rfl,TL,L2,hk,λt2 ht2=> ?_⟩
    have s3:=zaj (o:=.tup [.int (kBlk n r c w kind i:Nat),.int (i % w:Nat)]) ht2
    refine⟨_,rfl,_,SqT.of zac,rfl,_,_,rfl,_,_,rfl,rfl,?_⟩
    revert s3
    generalize upd H2 t2 (.tup [.int (kBlk n r c w kind i:Nat),.int (i % w:Nat)])=H3
    intro s3
    push_cast[↓zcl,Int.zero_add]
    refine⟨.inl ⟨by omega,by omega⟩,by omega,by omega,p,n,r,c,w,kind,_,rfl,TL,L2.same s3,g2,g3,ziq,λv H4 s4 gv=> ?_⟩
    have s5:=s3.trans s4
    have R5:=R.same s5
    have er:=List.getElem?_eq_getElem (show kBlk n r c w kind i<rows.length by omega)
    have hrl:=e2 _ (List.mem_of_getElem? er)
    refine R5.ix er rfl λl el hl=>⟨l,_,_,_,rfl,rfl,hl,ixNn (by omega),?_⟩
    have hl':=List.mem_of_getElem? el
    have tk:zgg H4 (upd H4 l (.lst (rows[kBlk n r c w kind i].set (i % w) v))):=λb xs e=>by rw[zag (zbe e hl (by intro z;cases z))];exact e
    refine⟨_,by rw[List.length_set];exact e1,λr' hr'=> ?_,R5.put el,λr' hr' v' hv'=> ?_,λb o e nb=> ?_⟩
    · rcases List.mem_or_eq_of_mem_set hr' with z | z
      ·exact e2 r' z
      ·rw[z,List.length_set];exact hrl
    · rcases List.mem_or_eq_of_mem_set hr' with z | z
      ·exact((g r' z v' hv').keep s5.tk).keep tk
      · rw[z]at hv'
        rcases List.mem_or_eq_of_mem_set hv' with y | y
        ·exact((g _ (List.mem_of_getElem? er) v' y).keep s5.tk).keep tk
        ·rw[y];exact gv.keep tk
    · rw[zag (show b≠l from λz=>nb (z ▸ hl'))]
      exact s5 _ _ (sb _ _ e nb)
  · subst ez
    exact q _ _ _ _ J
theorem zue(h:zep K a vs H Q E):zik K a (λ_=>E) (ends Q) (zbu ["layout","rows","script","counts","cell","kind","many","full","k","block","at"] vs) H:=by
 obtain⟨p,rl,s,rs,rows,n,r,c,w,ns,rfl,TL,L,g1,g2,g3,h1,h2,h3,h4,R,hM,hW,gR,hs,hl,q⟩:=h
 obtain⟨dx,e⟩:=L.ob
 push_cast[zik,↓zo4,↓zo5,↓zns]
 refine⟨_,_,e,zgw (by decide +kernel),p,n,r,c,w,rfl,TL,L,λt ht=> ?_⟩
 have s1:=zaj (o:=.tup [V.int ((n:Int) * w),V.int ((r:Int) * w),V.int ((c:Int) * w)]) ht
 have et:upd H t (.tup [V.int ((n:Int) * w),V.int ((r:Int) * w),V.int ((c:Int) * w)]) t=some (.tup [V.int ((n:Int) * w),V.int ((r:Int) * w),V.int ((c:Int) * w)]):=zac
 revert s1 et
 generalize upd H t (.tup [V.int ((n:Int) * w),V.int ((r:Int) * w),V.int ((c:Int) * w)])=H1
 intro s1 et
 show za5 K a _ _ _ _
 rw[zh6]
 refine⟨ns,1,rfl,s1.seq hs,by omega,?_⟩
 generalize zqw ns 1=cell
 have R1:=R.same s1
 have notrs:∀ {x:Addr} {o:HO},H1 x=some o->(∀ xs,o≠.lst xs)->x∉rs:=λ{x o} ex hn hx=>by
  obtain⟨xs,el⟩:=R1.lst hx
  rw[ex]at el;cases el
  exact hn _ rfl
 have nt:=notrs et (by intro xs z;cases z)
 have np:=notrs (s1 _ _ e) (by intro xs z;cases z)
 refine⟨by decide,by decide,?_⟩
 refine zfw (λi σ H'=>zxu H1 rl rs w rows.length H'/\∃ y5 y6 y7 y8 y9 y10,σ=[some (.ref p),some (.ref rl),some (.ref s),some (.ref t),some (.int cell),y5,y6,y7,y8,y9,y10]) ⟨⟨rows,rfl,hW,R1,λr' hr' v hv=>(gR r' hr' v hv).keep s1.tk,SameBut.refl _⟩,_,_,_,_,_,_,rfl⟩ (λkind σ H' hk ⟨I,y5,y6,y7,y8,y9,y10,ez⟩=> ?_) (λσ H' ⟨I,y5,y6,y7,y8,y9,y10,ez⟩=> ?_)
 ·subst ez
  push_cast[↓zo6,↓zo7,↓zo8,↓zo9,↓zcl,Int.zero_add]
  refine⟨by decide,λl5 hl5=> ?_⟩
  have hk5:kind<5:=by omega
  have s6:=zaj (o:=.lst [V.int 0,V.int 1,V.int 2,V.int 1,V.int 2]) hl5
  have e6:upd H' l5 (.lst [V.int 0,V.int 1,V.int 2,V.int 1,V.int 2]) l5=some (.lst [V.int 0,V.int 1,V.int 2,V.int 1,V.int 2]):=zac
  have I6:zxu H1 rl rs w rows.length (upd H' l5 (.lst [V.int 0,V.int 1,V.int 2,V.int 1,V.int 2])):=by
   obtain⟨rows',e1,e2,e3,e4,e5⟩:=I
   exact⟨rows',e1,e2,e3.same s6,λr' hr' v hv=>(e4 r' hr' v hv).keep s6.tk,e5.trans (Same.sb s6)⟩
  have et6:upd H' l5 (.lst [V.int 0,V.int 1,V.int 2,V.int 1,V.int 2]) t=some (.tup [V.int ((n:Int) * w),V.int ((r:Int) * w),V.int ((c:Int) * w)]):=by
   obtain⟨rows',e1,e2,e3,e4,e5⟩:=I
   exact s6 _ _ (e5 _ _ et nt)
  revert e6 I6 et6
  generalize upd H' l5 (.lst [V.int 0,V.int 1,V.int 2,V.int 1,V.int 2])=H2
  intro e6 I6 et6
  have ei:([V.int 0,V.int 1,V.int 2,V.int 1,V.int 2])[kind]? =some (.int ((if kind=0 then 0 else if kind=1\/kind=3 then 1 else 2:Nat):Int)):=by
   rcases(by omega:kind=0\/kind=1\/kind=2\/kind=3\/kind=4)with z | z | z | z | z<;>subst z<;>simp
  refine zh5 (SqL.of e6) (n:=kind) rfl ei (zge et6 (n:=(if kind=0 then 0 else if kind=1\/kind=3 then 1 else 2:Nat)) rfl (zabn hk5) ⟨by omega,by omega,?_⟩)
  push_cast[]
  have hp:(0:Int)<(zcg n r c w kind:Nat)+1:=by omega
  refine⟨hp,?_⟩
  have q0:=ziq (c:=cell) (t:=10+(kind:Int))
  obtain⟨full,ef,hf⟩:∃ full:Nat,mill cell (10+kind) % ((zcg n r c w kind:Nat)+1)=full/\full<=zcg n r c w kind:=⟨(mill cell (10+kind) % ((zcg n r c w kind:Nat)+1)).toNat,by
   have:=Int.emod_nonneg (mill cell (10+kind)) (show((zcg n r c w kind:Nat)+1:Int)≠0 by omega)
   omega,by
   have:=Int.emod_lt_of_pos (mill cell (10+kind)) hp
   omega⟩
  rw[ef]
  have fin:∀ f:Nat,f<=zcg n r c w kind->∀ {y8 y9 y10:Option V},rd_law_laid_9 K a (λ_=>E) (λ_=>E) { (ends Q)with nx:=λσ H'=>zxu H1 rl rs w rows.length H'/\∃ y5 y6 y7 y8 y9 y10,σ=[some (.ref p),some (.ref rl),some (.ref s),some (.ref t),some (.int cell),y5,y6,y7,y8,y9,y10],ct:=λσ H'=>zxu H1 rl rs w rows.length H'/\∃ y5 y6 y7 y8 y9 y10,σ=[some (.ref p),some (.ref rl),some (.ref s),some (.ref t),some (.int cell),y5,y6,y7,y8,y9,y10],bk:=λ_ H'=>Q .non H' } [some (.ref p),some (.ref rl),some (.ref s),some (.ref t),some (.int cell),some (.int kind),some (.int (zcg n r c w kind:Nat)),some (.int f),y8,y9,y10] H2:=λf hf {y8 y9 y10}=>zafz TL (L.same s1) np hk5 g2 g3 h1 h2 h3 h4 hM hf I6 λH4 y8 y9 y10 J=>⟨J,_,_,_,_,_,_,rfl⟩
  split
  ·split
   ·exact fin _ (Nat.le_refl _)
   ·exact fin _ hf
  ·exact fin _ hf
 ·subst ez
  obtain⟨rows',e1,e2,e3,e4,e5⟩:=I
  exact q rows' H' e1 e2 e3 e4 ((Same.sb s1).trans e5)
theorem zv9(h:zep K a vs H Q E):vs.length=3:=by
 obtain⟨_,_,_,_,_,_,_,_,_,_,rfl,_⟩:=h
 rfl
theorem zabo{n:Nat}{outs:Int->Bool}(h:outs n=false):ziy (n+1) outs=ziy n outs++[n]:=by
 unfold ziy
 rw[List.range_succ,List.filter_append]
 simp[h]
theorem WtAt.keep{H H':Hp}{cs cs':List Ch}{t:Addr}{k:Nat}(h:WtAt H cs t k)(tk:zgg H H')(hc:∀ c,cs[k]? =some c->cs'[k]? =some c):WtAt H' cs' t k:=by
 obtain⟨p,c,e1,e2,e3⟩:=h
 exact⟨p,c,hc c e1,tk _ _ e2,tk _ _ e3⟩
theorem zabp{cs:List Ch}{rows:List (List V)}{i j:Int}{bi bj:Nat}{v:V}{nd:List Int}:zec (cs++[⟨bi,bj,v,nd⟩]) rows i j=if(bi:Int)=i/\(bj:Int)=j then some v else zec cs rows i j:=by
  unfold zec
  rw[zl2]
  by_cases h:(bi:Int)=i/\(bj:Int)=j
  · rw[if_pos h,if_pos h]
    simp
  · rw[if_neg h,if_neg h]
    cases e:zb4 cs i j with
    | none=>rfl
    | some k =>
      show((cs++[_])[k]?).map _=(cs[k]?).map _
      rw[List.getElem?_append_left (zhd e)]
theorem zac9{cs:List Ch}{bi bj:Nat}{v:V}{nd:List Int}(own:zvp cs)(hnd:∀ y∈nd,∃ k:Nat,zb4 cs bi bj=some k/\y=k):zvp (cs++[⟨bi,bj,v,nd⟩]):=λk c e y hy=>by
 rcases Nat.lt_or_ge k cs.length with z | z
 ·rw[List.getElem?_append_left z]at e
  obtain⟨k',c',h1,h2,h3,h4⟩:=own k c e y hy
  exact⟨k',c',h1,h2,by rw[List.getElem?_append_left (by omega)];exact h3,h4⟩
 ·rw[List.getElem?_append_right z]at e
  have hk0:k - cs.length=0:=by
   rcases Nat.eq_zero_or_pos (k - cs.length)with z | z
   ·exact z
   ·rw[List.getElem?_eq_none (by simp;omega)]at e;cases e
  rw[hk0]at e
  cases e
  obtain⟨k',h1,h2⟩:=hnd y hy
  obtain⟨c',h3,h4,h5⟩:=zl4 h1
  have hlt:=zhd h1
  exact⟨k',c',h2,by omega,by rw[List.getElem?_append_left hlt];exact h3,by show c'.blk=bi;omega⟩
theorem zmx{G:Addr->Prop}{H H':Hp}(s:SameBut G H H')(g:∀ x,G x->zih (H x)):zgg H H':=λb xs e=>s _ _ e λz=>(g _ z).1 _ e
theorem zyu{κ :Type}[DecidableEq κ]{kvs:List (κ × V)}{k: κ}{v:V}{p: κ × V}(h:p∈putK kvs k v):p.1=k\/∃ p'∈kvs,p'.1=p.1:=by
 unfold putK at h
 split at h
 ·obtain⟨p',hp',e⟩:=List.mem_map.mp h
  split at e
  ·rename_i z
   rw[<-e]
   exact .inr ⟨p',hp',rfl⟩
  ·exact .inr ⟨p',hp',by rw[e]⟩
 ·rcases List.mem_append.mp h with z | z
  ·exact .inr ⟨p,z,rfl⟩
  ·rw[List.mem_singleton.mp z];exact .inl rfl
theorem zrh {S:SA} {n r c w:Nat} {zs:List V} {rows:List (List V)} {nn:Nat} {cs:List Ch} {outs:Int->Bool} {x:Int} {kind k:Nat} {v:V} {y5 y8:Option V} {D:Ends} (T:TB K a) (TP:zc0 K a) (TL:TLay K a) (I:ST a H S n r c w zs rows nn cs outs) (ho:outs cs.length=false) (hc:cs.length<100) (hk:kind<5) (hkk:k<zcg n r c w kind) (gv:GoodV 4 H v)
    (q:∀ ch H' σ,ST a H' S n r c w zs rows nn (cs++[ch]) outs->D.nx σ H') :
    rd_law_change_9 K a (λ_=>E) (λ_=>E) { D with nx:=tSeq (rd_law_change_10 K a (λ_=>E) (λ_=>E)) (rd_law_change_11 K a (λ_=>E) (λ_=>E)) D } [some (.ref S.lp),some (.ref S.A.b),some (.ref S.st),some (.int x),some (.int kind),y5,some (.int k),some v,y8] H:=by
  obtain⟨dx,e⟩:=I.ly.ob
  obtain⟨db,hb⟩:=I.bk.bk.ob
  obtain⟨kvs,wl,ts,d1,d2,d3,d4,d5,d6,a1,a2,a3,a4,ew,pw⟩:=I.sd
  obtain⟨kvh,m1,m2,m3,m4⟩:=I.hd
  have hbl:=zyt hk hkk
  have hw:=zt9 hkk
  have hj:k % w<w:=Nat.mod_lt _ (by omega)
  have hM:=I.sz.2.2.2.2.2.2.2
  have hwn:nn<=nn:=Nat.le_refl _
  push_cast[↓zmn]
  refine⟨S.lp,n,r,c,w,kind,k,rfl,TL,I.ly,hk,λt ht=> ?_⟩
  have s1:=zaj (o:=.tup [.int (kBlk n r c w kind k:Nat),.int (k % w:Nat)]) ht
  have et:upd H t (.tup [.int (kBlk n r c w kind k:Nat),.int (k % w:Nat)]) t=some (.tup [.int (kBlk n r c w kind k:Nat),.int (k % w:Nat)]):=zac
  revert s1 et
  generalize kBlk n r c w kind k=bi at *
  generalize k % w=bj at *
  generalize upd H t (.tup [.int (bi:Int),.int (bj:Int)])=H1
  intro s1 et
  have on:onPl rows w (bi:Int) (bj:Int):=⟨by omega,by omega,by omega,by omega⟩
  push_cast[↓zli]
  refine⟨_,dS' (s1 _ _ d1) d5,.inl ⟨rfl,_,SqL.of (s1 _ _ ew)⟩,_,_,s1 _ _ hb,zo0 (by decide +kernel),by decide,λnl hnl=> ?_⟩
  have s2:=s1.trans (zaj (o:=.lst []) hnl)
  have en:upd H1 nl (.lst []) nl=some (.lst []):=zac
  have et2:=zaj (o:=.lst []) hnl _ _ et
  revert s2 en et2
  generalize upd H1 nl (.lst [])=H2
  intro s2 en et2
  refine⟨S.A,w,rows,nn,cs,outs,t,nl,v,[],(bi:Int),(bj:Int),rfl,T,TP,I.bk.same s2,et2,SqL.of en,by simp,by omega,λ_ _ nd H3 hnd1 hnd2 B3 s3=>⟨by decide,λu hu=> ?_⟩,λz=>absurd on z,λ_ ⟨y,hy,_⟩=>by cases hy⟩
  rw[Int.toNat_natCast,Int.toNat_natCast]at B3
  have gA:∀ x,S.A.F x->zih (H2 x):=λx hx=>(I.bk.same s2).loose hx
  have sb3:SameBut S.A.F H H3:=(Same.sb s2).trans s3
  have su:=zaj (o:=.tup [.int cs.length,.ref t]) hu
  have eu:upd H3 u (.tup [.int cs.length,.ref t]) u=some (.tup [.int cs.length,.ref t]):=zac
  have et3:=s3 _ _ et2 λz=>(gA _ z).1 _ et2
  have et4:=su _ _ et3
  have B4:=B3.same su
  have sb4:=sb3.trans (Same.sb su)
  revert eu et4 B4 sb4
  generalize upd H3 u (.tup [.int cs.length,.ref t])=H4
  intro eu et4 B4 sb4
  have ew4:=sb4 _ _ ew a1
  have hts:ts.length<=100:=by
    have h1:=pw.length
    have h2:=zt5 cs.length outs
    omega
  refine⟨wl,_,_,rfl,rfl,ew4,zm1 _ (by rw[List.length_map];omega),?_⟩
  have s5:SameBut (· =wl) H4 (upd H4 wl (.lst (ts.map V.ref++[.ref u]))):=λy o e n=>by rw[zag n];exact e
  have ew5:upd H4 wl (.lst (ts.map V.ref++[.ref u])) wl=some (.lst (ts.map V.ref++[.ref u])):=zac
  revert s5 ew5
  generalize upd H4 wl (.lst (ts.map V.ref++[.ref u]))=H5
  intro s5 ew5
  have nst:S.st≠wl:=zbe d1 ew (by intro z;cases z)
  have nhd:S.hd≠wl:=zbe m1 ew (by intro z;cases z)
  have nsh:S.st≠S.hd:=zbe d1 m1 (by intro z;cases z)
  have d15:=s5 _ _ (sb4 _ _ d1 I.ap.1) nst
  have m15:=s5 _ _ (sb4 _ _ m1 I.ap.2.1) nhd
  have et5:=s5 _ _ et4 (zbe et4 ew4 (by intro z;cases z))
  push_cast[↓zlj]
  refine⟨_,dS' d15 d3,_,rfl,_,pT2 m15 et5 (by omega),?_⟩
  have s6:SameBut (· =S.hd) H5 (upd H5 S.hd (.dT (putK kvh [.inl (bi:Int),.inl (bj:Int)] v))):=λy o e n=>by rw[zag n];exact e
  have m16:upd H5 S.hd (.dT (putK kvh [.inl (bi:Int),.inl (bj:Int)] v)) S.hd=some (.dT (putK kvh [.inl (bi:Int),.inl (bj:Int)] v)):=zac
  revert s6 m16
  generalize upd H5 S.hd (.dT (putK kvh [.inl (bi:Int),.inl (bj:Int)] v))=H6
  intro s6 m16
  have s46:SameBut (λx=>x=wl\/x=S.hd) H4 H6:=(s5.wide λx=>.inl).trans (s6.wide λx=>.inr)
  have l46:∀ x,(x=wl\/x=S.hd)->zih (H4 x):=λx z=>z.elim (λz=>by subst z;exact zkl ew4) λz=>by subst z;exact zqt (sb4 _ _ m1 I.ap.2.1)
  have sG:SameBut (λx=>S.A.F x\/x=wl\/x=S.hd) H H6:=(sb4.wide λx=>.inl).trans (s46.wide λx=>.inr)
  have gG:∀ x,(S.A.F x\/x=wl\/x=S.hd)->zih (H x):=λx z=>by
    rcases z with z | z | z
    ·exact I.bk.loose z
    ·subst z;exact zkl ew
    ·subst z;exact zqt m1
  have tk:=zmx sG gG
  have tk4:=zmx s46 l46
  have hcs:(cs++[(⟨bi,bj,v,nd⟩:Ch)]).length=cs.length+1:=by simp
  have off:∀ {x:Addr},¬ S.A.F x->x≠wl->x≠S.hd->¬ (S.A.F x\/x=wl\/x=S.hd):=λh1 h2 h3 z=>by
    rcases z with z | z | z
    ·exact h1 z
    ·exact h2 z
    ·exact h3 z
  have lhd:∀ {x:Addr} {xs:List V},H x=some (.lst xs)->x≠S.hd:=λe=>zbe e m1 (by intro z;cases z)
  refine q ⟨bi,bj,v,nd⟩ H6 _ ⟨B4.sb s46 l46 λx z=>z.elim (λz=>z ▸ a1) λz=>z ▸ I.ap.2.1,I.ly.sb sG λz=> ?_,⟨kvs,wl,ts++[u],s6 _ _ d15 nsh,d2,d3,d4,d5,d6,a1,a2,a3,a4,by rw[List.map_append];exact s6 _ _ ew5 nhd.symm,?_⟩,⟨_,m16,?_,λp hp=> ?_,λi j onij=> ?_⟩,⟨sG _ _ I.rr.1 (off I.ap.2.2.1 (λz=>a2 z.symm) (lhd I.rr.1)),I.rr.2.1,I.rr.2.2.1,zgv I.rr.2.2.2 λl hl r z=>sG _ _ z (off (I.ap.2.2.2.1 l hl) (λy=>a3 (y ▸ hl)) (lhd z))⟩,zac9 I.own λy hy=> ?_,⟨λr hr v hv=>(I.gd.1 r hr v hv).keep tk,λc' hc'=> ?_⟩,I.ap,I.zn,sG _ _ I.sc (off I.ap.2.2.2.2 (λz=>a4 z.symm) (lhd I.sc)),I.sz⟩
  ·exact(gG _ z).2 _ _ _ e
  · rw[hcs,zabo ho]
    refine Paired.snoc (Paired.mapP pw λt' k' h=>h.keep tk λc' e'=>by rw[List.getElem?_append_left (List.getElem?_eq_some_iff.mp e').1];exact e') ⟨t,⟨bi,bj,v,nd⟩,by simp,tk4 _ _ eu,tk4 _ _ et4⟩
  · have:=zdu kvh [.inl (bi:Int),.inl (bj:Int)] v
    rw[hcs];omega
  · rcases zyu hp with z | ⟨p',hp',z⟩
    ·exact⟨_,_,z,on⟩
    · obtain⟨i,j,e1,e2⟩:=m3 p' hp'
      exact⟨i,j,z ▸ e1,e2⟩
  · rw [zabp,ze3]
    by_cases h:(bi:Int)=i/\(bj:Int)=j
    · rw[if_pos h,if_pos (by rw[h.1,h.2])]
      exact⟨v,rfl,rfl⟩
    · rw[if_neg h,if_neg (by
        intro z
        injection z with z1 z2
        injection z2 with z2 _
        injection z1 with z1
        injection z2 with z2
        exact h ⟨z1.symm,z2.symm⟩)]
      exact m4 i j onij
  · rcases(hnd2 y).mp hy with z | z
    ·cases z
    ·exact z
  · rcases List.mem_append.mp hc' with z | z
    ·exact(I.gd.2 c' z).keep tk
    ·rw[List.mem_singleton.mp z];exact gv.keep tk
theorem ST.same{H H':Hp}{S:SA}{n r c w:Nat}{zs:List V}{rows:List (List V)}{nn:Nat}{cs:List Ch}{outs:Int->Bool}(I:ST a H S n r c w zs rows nn cs outs)(s:Same H H'):ST a H' S n r c w zs rows nn cs outs:=by
 obtain⟨b,l,⟨kvs,wl,ts,d1,d2,d3,d4,d5,d6,a1,a2,a3,a4,ew,pw⟩,hd,rr,own,gd,ap,zn,sc,sz⟩:=I
 exact⟨b.same s,l.same s,⟨kvs,wl,ts,s _ _ d1,d2,d3,d4,d5,d6,a1,a2,a3,a4,s _ _ ew,Paired.mapP pw λt k h=>h.keep s.tk λc e=>e⟩,hd.same s,rr.same s,own,gd.keep s.tk,ap,zn,s _ _ sc,sz⟩
theorem zri(h:zc7 K a vs H Q E):zg6 K a (λ_=>E) (ends Q) (zbu ["layout","hold","state","cell","kind","many","k","value","place"] vs) H:=by
 obtain⟨S,n,r,c,w,zs,rows,nn,cs,outs,x,rfl,T,TP,TL,I,ho,hc,q⟩:=h
 obtain⟨dx,e⟩:=I.ly.ob
 push_cast[zg6,↓zmf,↓zmg,↓zmh,↓zmi,↓zmj,↓zcl]
 refine⟨_,_,e,zgw (by decide +kernel),S.lp,n,r,c,w,rfl,TL,I.ly,λt ht=> ?_⟩
 have s1:=zaj (o:=.tup [V.int ((n:Int) * w),V.int ((r:Int) * w),V.int ((c:Int) * w)]) ht
 have et:upd H t (.tup [V.int ((n:Int) * w),V.int ((r:Int) * w),V.int ((c:Int) * w)]) t=some (.tup [V.int ((n:Int) * w),V.int ((r:Int) * w),V.int ((c:Int) * w)]):=zac
 refine⟨by decide,λl5 hl5=> ?_⟩
 have s2:=s1.trans (zaj (o:=.lst [V.int 0,V.int 1,V.int 2,V.int 1,V.int 2]) hl5)
 have et2:=zaj (o:=.lst [V.int 0,V.int 1,V.int 2,V.int 1,V.int 2]) hl5 _ _ et
 have q1:=ziq (c:=x) (t:=1)
 obtain⟨kind,ek,hk⟩:∃ kind:Nat,mill x 1 % 5=kind/\kind<5:=⟨(mill x 1 % 5).toNat,by omega,by omega⟩
 rw[ek]
 have ei:([V.int 0,V.int 1,V.int 2,V.int 1,V.int 2])[kind]? =some (.int ((if kind=0 then 0 else if kind=1\/kind=3 then 1 else 2:Nat):Int)):=by
  rcases(by omega:kind=0\/kind=1\/kind=2\/kind=3\/kind=4)with z | z | z | z | z<;>subst z<;>simp
 refine zh5 (SqL.of zac) (n:=kind) rfl ei (zge et2 (n:=(if kind=0 then 0 else if kind=1\/kind=3 then 1 else 2:Nat)) rfl (zabn hk) ?_)
 revert s2
 generalize upd (upd H t (.tup [V.int ((n:Int) * w),V.int ((r:Int) * w),V.int ((c:Int) * w)])) l5 (.lst [V.int 0,V.int 1,V.int 2,V.int 1,V.int 2])=H2
 intro s2
 have hz:=I.sz
 have hm1:0<zcg n r c w kind:=by
  unfold zcg
  refine Nat.mul_pos ?_ I.ly.h1
  split<;>(try split)<;>(try split)<;>(try split)<;>omega
 have rest:∀ k:Nat,k<zcg n r c w kind->rd_law_change_6 K a (λ_=>E) (λ_=>E) { (ends Q)with nx:=tSeq (rd_law_change_8 K a (λ_=>E) (λ_=>E)) (tSeq (rd_law_change_9 K a (λ_=>E) (λ_=>E)) (tSeq (rd_law_change_10 K a (λ_=>E) (λ_=>E)) (rd_law_change_11 K a (λ_=>E) (λ_=>E)))) (ends Q) } [some (.ref S.lp),some (.ref S.A.b),some (.ref S.st),some (.int x),some (.int kind),some (.int (zcg n r c w kind:Nat)),some (.int k),none,none] H2:=λk hkk=>by
  push_cast[↓zmk,↓zcl]
  refine⟨S.lp,n,r,c,w,kind,_,rfl,TL,I.ly.same s2,by omega,by omega,ziq,λv H3 s3 gv=> ?_⟩
  push_cast[↓zml,↓zmm,↓zcl]
  split
  ·refine⟨kind,_,rfl,λv2 H4 s4 gv2=> ?_⟩
   exact zrh T TP TL (I.same ((s2.trans s3).trans s4)) ho hc hk hkk gv2 λch H' σ J=>q ch H' J
  ·exact zrh T TP TL (I.same (s2.trans s3)) ho hc hk hkk gv λch H' σ J=>q ch H' J
 push_cast[]
 have q2:=ziq (c:=x) (t:=2)
 have hp:(0:Int)<(zcg n r c w kind:Nat):=by omega
 refine⟨hp,?_⟩
 obtain⟨k,ekk,hkk⟩:∃ k:Nat,mill x 2 % (zcg n r c w kind:Nat)=k/\k<zcg n r c w kind:=⟨(mill x 2 % (zcg n r c w kind:Nat)).toNat,by
  have:=Int.emod_nonneg (mill x 2) (show(zcg n r c w kind:Int)≠0 by omega)
  omega,by
  have:=Int.emod_lt_of_pos (mill x 2) hp
  omega⟩
 rw[ekk]
 split
 ·obtain⟨k2,e2,h2⟩:∃ k2:Nat,(k:Int) % 2 % (zcg n r c w kind:Nat)=k2/\k2<zcg n r c w kind:=⟨((k:Int) % 2 % (zcg n r c w kind:Nat)).toNat,by
   have:=Int.emod_nonneg ((k:Int) % 2) (show(zcg n r c w kind:Int)≠0 by omega)
   omega,by
   have:=Int.emod_lt_of_pos ((k:Int) % 2) hp
   omega⟩
  rw[e2]
  exact⟨hp,rest k2 h2⟩
 ·exact rest k hkk
theorem zsc(h:zc7 K a vs H Q E):vs.length=4:=by
 obtain⟨_,_,_,_,_,_,_,_,_,_,_,rfl,_⟩:=h
 rfl
theorem zir{α β :Type}{F: α -> β ->Prop}{p: α ->Bool}{q: β ->Bool}:∀ {l:List α} {m:List β},Paired F l m->(∀ x y,F x y->p x=q y)->Paired F (l.filter p) (m.filter q)
  | _,_,.nil,_=>.nil
  | x::l,y::m,.cons h t,k=>by
    rw[List.filter_cons,List.filter_cons,k x y h]
    cases q y with
    | true=>rw[if_pos rfl,if_pos rfl];exact .cons h (zir t k)
    | false=>rw[if_neg Bool.false_ne_true,if_neg Bool.false_ne_true];exact zir t k
def othB (H:Hp) (b:Nat) (v:V):Bool:=match v with
  | .ref t=>match H t with
    | some (.tup [_,.ref p])=>match H p with
      | some (.tup [.int i,_])=> !decide (i=(b:Int))
      | _=>false
    | _=>false
  | _=>false
theorem zaf0{cs:List Ch}{t:Addr}{k:Nat}{c:Ch}{b:Nat}(h:WtAt H cs t k)(ec:cs[k]? =some c):othB H b (.ref t)= !(c.blk == b):=by
 obtain⟨p,c',e1,e2,e3⟩:=h
 rw[ec]at e1;cases e1
 simp only[othB,e2,e3]
 by_cases hb:c.blk=b
 ·simp[hb]
 ·have:¬ (c.blk:Int)=b:=by omega
  simp[hb,this]
theorem zzo{cs:List Ch}{outs:Int->Bool}{b:Nat}(own:zvp cs):ziy cs.length (zix cs outs b)=(ziy cs.length outs).filter λk=> !((cs[k]?).any λc=>c.blk == b):=by
 unfold ziy
 rw[List.filter_filter]
 refine List.filter_congr λk hk=> ?_
 have hk:=List.mem_range.mp hk
 have ec:=List.getElem?_eq_getElem hk
 rw[zac4 own ec,ec]
 simp[Bool.and_comm]
theorem zsd (h:zdp K a vs H Q E):zht K a (λ_=>E) (ends Q) (zbu ["hold","state","block","at"] vs) H:=by
  obtain⟨S,n,r,c,w,zs,rows,nn,cs,outs,b,rfl,T,TP,I,hb,hn,hcs,q⟩:=h
  obtain⟨db,hob⟩:=I.bk.bk.ob
  obtain⟨dp,hgp⟩:=I.bk.pk.ob
  obtain⟨kvs,wl,ts,d1,d2,d3,d4,d5,d6,a1,a2,a3,a4,ew,pw⟩:=I.sd
  obtain⟨kvh,m1,m2,m3,m4⟩:=I.hd
  push_cast[zht,↓znt]
  refine⟨_,_,hob,zo0 (by decide +kernel),S.A,w,rows,nn,cs,outs,b,rfl,T,TP,I.bk,λb' row t ol hl H1 eb er hol hhl noh told B1 s1=> ?_,λz=>by omega⟩
  obtain rfl:b=b':=by omega
  have hrow:=I.bk.pk.wd row (List.mem_of_getElem? er)
  have hsz:=I.sz
  have lcl:(zf4 cs (zix cs outs b) b row).length=w:=by rw[zhe];exact hrow
  have cell:∀ j:Nat,j<w->(zf4 cs (zix cs outs b) b row)[j]? =zec cs rows b j:=λj hj=>by
    rw[zac5 I.own (by omega)]
    unfold zec
    cases zb4 cs b j with
    | some k=>rfl
    | none =>
      show row[j]? =(rows[(b:Int).toNat]?).bind λr=>r[(j:Int).toNat]?
      rw[Int.toNat_natCast,Int.toNat_natCast,er]
      rfl
  generalize zf4 cs (zix cs outs b) b row=laid at B1 lcl cell
  have notgp:∀ {x:Addr} {o:HO},H x=some o->(∀ C dx fs,o≠.ins C dx fs)->x≠S.A.gp:=λe hn z=>by rw[z,hgp]at e;exact hn _ _ _ (Option.some.inj e).symm
  have k1:∀ {x:Addr} {o:HO},H x=some o->¬ S.A.F x->(∀ C dx fs,o≠.ins C dx fs)->H1 x=some o:=λe f hn=>s1 _ _ e λz=>z.elim f (notgp e hn)
  have d11:=k1 d1 I.ap.1 (by intro _ _ _ z;cases z)
  have ew1:=k1 ew a1 (by intro _ _ _ z;cases z)
  have m11:=k1 m1 I.ap.2.1 (by intro _ _ _ z;cases z)
  have rl1:=k1 I.rr.1 I.ap.2.2.1 (by intro _ _ _ z;cases z)
  have sc1:=k1 I.sc I.ap.2.2.2.2 (by intro _ _ _ z;cases z)
  have tk1:zgg H H1:=λy xs e=>s1 _ _ e λz=>z.elim (λz=>(I.bk.loose z).1 _ e) (notgp e (by intro _ _ _ z;cases z))
  have R1:RowsM H1 S.rl S.rs rows:=⟨rl1,I.rr.2.1,I.rr.2.2.1,zgv I.rr.2.2.2 λl hl r z=>k1 z (I.ap.2.2.2.1 l hl) (by intro _ _ _ z;cases z)⟩
  obtain⟨dl,el⟩:=I.ly.ob
  have ly1:LayAt a H1 S.lp n r c w:=I.ly.sb s1 λz=>z.elim (λz=>(I.bk.loose z).2 _ _ _ el) λz=>by
    rw[z,hgp]at el
    injection el with el
    injection el with _ _ el
    simp[pf,lf]at el
  push_cast[↓znu]
  refine⟨_,dS' d11 d6,?_⟩
  push_cast[]
  refine⟨_,pS d11 (by omega),?_⟩
  have nstw:wl≠S.st:=zbe ew d1 (by intro z;cases z)
  have s2:SameBut (· =S.st) H1 (upd H1 S.st (.dK (putK kvs (.inr "writings") (.int ((nn:Int)+1))))):=λy o e n=>by rw[zag n];exact e
  have d12:upd H1 S.st (.dK (putK kvs (.inr "writings") (.int ((nn:Int)+1)))) S.st=some (.dK (putK kvs (.inr "writings") (.int ((nn:Int)+1)))):=zac
  revert s2 d12
  generalize upd H1 S.st (.dK (putK kvs (.inr "writings") (.int ((nn:Int)+1))))=H2
  intro s2 d12
  have ew2:=s2 _ _ ew1 nstw
  have tk2:zgg H1 H2:=λy xs e=>s2 _ _ e (zbe e d11 (by intro z;cases z))
  have v5:valV (putK kvs (.inr "writings") (.int ((nn:Int)+1))) (.inr "waits")=some (.ref wl):=by rw[ze3,if_neg (by decide +kernel)];exact d5
  push_cast[↓znv]
  refine⟨_,dS' d12 v5,?_⟩
  have hts:ts.length<=100:=by
    have h1:=pw.length
    have h2:=zt5 cs.length outs
    omega
  have pw2:Paired (WtAt H2 cs) ts (ziy cs.length outs):=Paired.mapP pw λt' k h=>(h.keep tk1 λc e=>e).keep tk2 λc e=>e
  have at2:∀ t'∈ts,∃ (k:Nat) (p:Addr) (c':Ch),cs[k]? =some c'/\H2 t'=some (.tup [.int k,.ref p])/\H2 p=some (.tup [.int c'.blk,.int c'.cell]):=λt' ht'=>by
    obtain⟨i,ei⟩:=ztb ht'
    have hi:i<(ziy cs.length outs).length:=by have:=(List.getElem?_eq_some_iff.mp ei).1;have:=pw.length;omega
    obtain⟨t2,e2,p,c',e3,e4,e5⟩:=zfm pw2 (List.getElem?_eq_getElem hi)
    rw[ei]at e2;cases e2
    exact⟨_,p,c',e3,e4,e5⟩
  refine⟨wl,rfl,.inl ⟨⟨_,SqL.of ew2⟩,zzh (othB H2 b) (zm1 _ (by rw[List.length_map];omega)) (SqL.of ew2) (λv hv QB qb=> ?_) λwl2 hwl2=> ?_⟩⟩
  · obtain⟨t',ht',rfl⟩:=List.mem_map.mp hv
    obtain⟨k,p,c',e1,e2,e3⟩:=at2 t' ht'
    push_cast[capV]
    refine zge e2 (n:=1) rfl rfl (zge e3 (n:=0) rfl rfl ?_)
    push_cast[]
    have:othB H2 b (.ref t')= !decide ((c'.blk:Int)=b):=by simp only[othB,e2,e3]
    rw[this]at qb
    exact qb
  have ef:(ts.map V.ref).filter (othB H2 b)=(ts.filter λt'=>othB H2 b (.ref t')).map V.ref:=by rw[List.filter_map];rfl
  rw[ef]
  have pw3:Paired (WtAt H2 cs) (ts.filter λt'=>othB H2 b (.ref t')) (ziy cs.length (zix cs outs b)):=by
    rw[zzo I.own]
    refine zir pw2 λt' k h=> ?_
    obtain⟨p,c',e1,e2,e3⟩:=h
    rw[zaf0 ⟨p,c',e1,e2,e3⟩ e1,e1]
    rfl
  generalize (ts.filter λt'=>othB H2 b (.ref t'))=ts3 at pw3 ⊢
  have hwl1:H1 wl2=none:=by
    cases e:H1 wl2 with
    | none=>rfl
    | some o =>
      by_cases z:wl2=S.st
      ·rw[z,d12]at hwl2;cases hwl2
      ·rw[s2 _ _ e z]at hwl2;cases hwl2
  have s3:=zaj (o:=.lst (ts3.map V.ref)) hwl2
  have ew3:upd H2 wl2 (.lst (ts3.map V.ref)) wl2=some (.lst (ts3.map V.ref)):=zac
  have d13:=s3 _ _ d12
  revert s3 ew3 d13
  generalize upd H2 wl2 (.lst (ts3.map V.ref))=H3
  intro s3 ew3 d13
  have hput1:=zdu kvs (.inr "writings") (.int ((nn:Int)+1))
  refine⟨_,pS d13 (by omega),?_⟩
  have s4:SameBut (· =S.st) H3 (upd H3 S.st (.dK (putK (putK kvs (.inr "writings") (.int ((nn:Int)+1))) (.inr "waits") (.ref wl2)))):=λy o e n=>by rw[zag n];exact e
  have d14:upd H3 S.st (.dK (putK (putK kvs (.inr "writings") (.int ((nn:Int)+1))) (.inr "waits") (.ref wl2))) S.st=some (.dK (putK (putK kvs (.inr "writings") (.int ((nn:Int)+1))) (.inr "waits") (.ref wl2))):=zac
  have hput2:=zdu (putK kvs (.inr "writings") (.int ((nn:Int)+1))) (.inr "waits") (.ref wl2)
  have w3:valV (putK (putK kvs (.inr "writings") (.int ((nn:Int)+1))) (.inr "waits") (.ref wl2)) (.inr "hand")=some (.ref S.hd):=by rw[ze3,if_neg (by decide +kernel),ze3,if_neg (by decide +kernel)];exact d3
  have w4:valV (putK (putK kvs (.inr "writings") (.int ((nn:Int)+1))) (.inr "waits") (.ref wl2)) (.inr "rows")=some (.ref S.rl):=by rw[ze3,if_neg (by decide +kernel),ze3,if_neg (by decide +kernel)];exact d4
  have w5:valV (putK (putK kvs (.inr "writings") (.int ((nn:Int)+1))) (.inr "waits") (.ref wl2)) (.inr "waits")=some (.ref wl2):=by rw[ze3,if_pos rfl]
  have w6:valV (putK (putK kvs (.inr "writings") (.int ((nn:Int)+1))) (.inr "waits") (.ref wl2)) (.inr "writings")=some (.int ((nn:Int)+1)):=by rw[ze3,if_neg (by decide +kernel),ze3,if_pos rfl]
  revert s4 d14 hput2 w3 w4 w5 w6
  generalize putK (putK kvs (.inr "writings") (.int ((nn:Int)+1))) (.inr "waits") (.ref wl2)=kv4
  generalize upd H3 S.st (.dK kv4)=H4
  intro s4 d14 hput2 w3 w4 w5 w6
  have s14:SameBut (· =S.st) H1 H4:=λy o e n=>s4 _ _ (s3 _ _ (s2 _ _ e n)) n
  have l14:∀ x,x=S.st->zih (H1 x):=λx e=>by subst e;exact zxg d11
  have nst:∀ {x:Addr} {xs:List V},H1 x=some (.lst xs)->x≠S.st:=λe=>zbe e d11 (by intro z;cases z)
  have R4:RowsM H4 S.rl S.rs rows:=⟨s14 _ _ rl1 (nst rl1),R1.2.1,R1.2.2.1,zgv R1.2.2.2 λl hl r z=>s14 _ _ z (nst z)⟩
  have m14:=s14 _ _ m11 (zbe m11 d11 (by intro z;cases z))
  have ew4:H4 wl2=some (.lst (ts3.map V.ref)):=s4 _ _ ew3 (zbe ew3 d13 (by intro z;cases z))
  have pw4:Paired (WtAt H4 cs) ts3 (ziy cs.length (zix cs outs b)):=Paired.mapP pw3 λt' k h=>(h.keep s3.tk λc e=>e).keep (λy xs e=>s4 _ _ e (zbe e d13 (by intro z;cases z))) λc e=>e
  have B4:=B1.sb s14 l14 λx e=>e ▸ I.ap.1
  push_cast[↓znx]
  refine⟨_,dS' d14 w4,R4.ix er rfl λl hl el4=> ?_⟩
  refine⟨_,.inl ⟨_,SqL.of el4,rfl⟩,by omega,by omega,?_⟩
  rw[hrow]
  have hl':=List.mem_of_getElem? hl
  have nls:l≠S.st:=zbe el4 d14 (by intro z;cases z)
  have nlr:l≠S.rl:=λz=>R4.2.2.1 (z ▸ hl')
  have nlh:l≠S.hd:=zbe el4 m14 (by intro z;cases z)
  refine zfw (λi σ H'=>(SameBut (· =l) H4 H'/\H' l=some (.lst (laid.take i++row.drop i)))/\∃ y,σ=[some (.ref S.A.b),some (.ref S.st),some (.int b),y]) ⟨⟨SameBut.refl _,by simpa using el4⟩,_,rfl⟩ (λi σ H' hi ⟨⟨s5,el5⟩,y,ez⟩=> ?_) (λσ H' ⟨⟨s5,el5⟩,y,ez⟩=> ?_)
  · subst ez
    push_cast[↓znw,Int.zero_add]
    have hiw:i<w:=by omega
    obtain⟨v,ev,iv⟩:=m4 b i ⟨by omega,by omega,by omega,by omega⟩
    refine⟨_,dS' (s5 _ _ d14 nls.symm) w3,by decide,λp hp=> ?_⟩
    have sp:=zaj (o:=.tup [.int (b:Int),.int (i:Int)]) hp
    have ep:upd H' p (.tup [.int (b:Int),.int (i:Int)]) p=some (.tup [.int (b:Int),.int (i:Int)]):=zac
    revert sp ep
    generalize upd H' p (.tup [.int (b:Int),.int (i:Int)])=H6
    intro sp ep
    refine⟨_,rfl,_,dT2' (sp _ _ (s5 _ _ m14 nlh.symm)) ep ev,_,dS' (sp _ _ (s5 _ _ d14 nls.symm)) w4,?_⟩
    refine zh5 (SqL.of (sp _ _ (s5 _ _ R4.1 nlr.symm))) (n:=b) rfl (by rw[List.getElem?_map,hl];rfl) ⟨l,_,_,_,rfl,rfl,sp _ _ el5,ixNn (by simp;omega),?_⟩
    refine⟨λy o e n=>by rw[zag n];exact sp _ _ (s5 _ _ e n),?_⟩
    rw[zac]
    have ec:=cell i hiw
    rw[iv]at ec
    have e1:laid.take (i+1)=laid.take i++[v]:=by
      rw[List.take_succ,ec];rfl
    have e2:row.drop i=row[i]::row.drop (i+1):=(List.drop_eq_getElem_cons (by omega))
    rw[e1,e2,List.set_append_right _ _ (by simp;omega)]
    have e3:i - (laid.take i).length=0:=by simp;omega
    rw[e3,List.set_cons_zero,List.append_assoc]
    rfl
  · subst ez
    have el6:H' l=some (.lst laid):=by rw[el5,List.take_of_length_le (by omega),List.drop_of_length_le (by omega),List.append_nil]
    have l5:∀ x,x=l->zih (H4 x):=λx e=>by subst e;exact zkl el4
    have tk5:zgg H4 H':=zmx s5 l5
    have tk4:zgg H1 H4:=zmx s14 l14
    have tk:zgg H H':=λy xs e=>tk5 _ _ (tk4 _ _ (tk1 _ _ e))
    have nwl:wl2∉S.rs:=λz=>by
      obtain⟨xs,ez⟩:=R1.lst z
      rw[hwl1]at ez;cases ez
    have nwrl:wl2≠S.rl:=λz=>by rw[z,rl1]at hwl1;cases hwl1
    have nwz:wl2≠S.z:=λz=>by rw[z,sc1]at hwl1;cases hwl1
    have nzl:S.z≠l:=λz=>I.zn.2 (z ▸ hl')
    have B6:=B4.sb s5 l5 λx e=>e ▸ I.ap.2.2.2.1 l hl'
    have hsl:(rows.set b laid).length=rows.length:=List.length_set
    have on':∀ {i j:Int},onPl (rows.set b laid) w i j->onPl rows w i j:=λ{i j} h=>⟨h.1,by have:=h.2.1;omega,h.2.2⟩
    have on2:∀ {i j:Int},onPl rows w i j->onPl (rows.set b laid) w i j:=λ{i j} h=>⟨h.1,by have:=h.2.1;omega,h.2.2⟩
    have hand':∀ i j:Int,onPl rows w i j->zec cs (rows.set b laid) i j=zec cs rows i j:=λi j on=>by
      have e:=cell j.toNat (by have:=on;omega)
      have on':=on
      unfold zec
      cases en:zb4 cs i j with
      | some k=>rfl
      | none =>
        show((rows.set b laid)[i.toNat]?).bind _=(rows[i.toNat]?).bind _
        by_cases z:i.toNat=b
        · rw[z,List.getElem?_set_self hb,er]
          show laid[j.toNat]? =row[j.toNat]?
          rw[e]
          unfold zec
          have hib:(b:Int)=i:=by omega
          have hjj:((j.toNat:Nat):Int)=j:=by omega
          rw[hib,hjj,en]
          show(rows[i.toNat]?).bind (λr=>r[j.toNat]?)=_
          rw[z,er]
          rfl
        ·rw[List.getElem?_set_ne (λy=>z y.symm)]
    obtain⟨dl4,el4'⟩:=ly1.ob
    refine q (rows.set b laid) H' ⟨B6,(ly1.sb s14 λz=>(l14 _ z).2 _ _ _ el4').sb s5 λz=> ?_,⟨kv4,wl2,ts3,s5 _ _ d14 nls.symm,by omega,w3,w4,w5,by rw[w6];rfl,λf=> ?_,nwrl,nwl,nwz,s5 _ _ ew4 (λz=>nwl (z ▸ hl')),Paired.mapP pw4 λt' k h=>h.keep tk5 λc e=>e⟩,⟨kvh,s5 _ _ m14 nlh.symm,m2,λp hp=> ?_,λi j on=> ?_⟩,?_,I.own,⟨λr' hr' v hv=> ?_,λc' hc'=>(I.gd.2 c' hc').keep tk⟩,I.ap,I.zn,s5 _ _ (s14 _ _ sc1 (nst sc1)) nzl,by rw[List.length_set];exact I.sz⟩
    · obtain⟨dl6,el6'⟩:=(ly1.sb s14 λz=>(l14 _ z).2 _ _ _ el4').ob
      exact(l5 _ z).2 _ _ _ el6'
    ·exact B1.off hwl1 f
    · obtain⟨i,j,e1,e2⟩:=m3 p hp
      exact⟨i,j,e1,on2 e2⟩
    · rw[hand' i j (on' on)]
      exact m4 i j (on' on)
    ·refine⟨s5 _ _ R4.1 nlr.symm,R4.2.1,R4.2.2.1,zoh R4.2.1 R4.2.2.2 hl (λx r n z=>s5 _ _ z n) el6⟩
    · rcases List.mem_or_eq_of_mem_set hr' with z | z
      ·exact(I.gd.1 r' z v hv).keep tk
      · rw[z]at hv
        obtain⟨j,ej⟩:=ztb hv
        have hj:j<w:=by have:=(List.getElem?_eq_some_iff.mp ej).1;omega
        have:=cell j hj
        rw[ej]at this
        exact(zmv I.gd this.symm).keep tk
theorem zuf(h:zdp K a vs H Q E):vs.length=3:=by
 obtain⟨_,_,_,_,_,_,_,_,_,_,_,rfl,_⟩:=h
 rfl
theorem zaf1{v:V}(hg:GoodV 4 H v)(q:Q (.bl false) H):rNeA K v v H Q:=by
  cases v with
  | int i=>rw[zadn];simpa using q
  | non=>rw[zaaz];exact q
  | str z=>rw[zado];simpa using q
  | ref p =>
    obtain⟨d,D⟩:=zud (K:=K) hg
    exact zadr (by decide) D D q
  | _=>exact hg.elim
theorem zaf2{p p':Addr}{xs:List V}(h1:SqL K H p xs)(h2:SqL K H p' xs)(hg:∀ v∈xs,GoodV 4 H v)(q:Q (.bl false) H):rNeA K (.ref p) (.ref p') H Q:=by
 obtain⟨ds,D⟩:=zv8 (K:=K) hg
 exact zadr (n:=5) (by decide) (Dat.lst h1 D) (Dat.lst h2 D) q
theorem zug (h:zeq K a vs H Q E):zil K a (λ_=>E) (ends Q) (zbu ["hold","plank","state","place","block"] vs) H:=by
  obtain⟨S,n,r,c,w,zs,rows,nn,cs,outs,rfl,T,TP,I,hcs,q⟩:=h
  obtain⟨kvs,wl,ts,d1,d2,d3,d4,d5,d6,a1,a2,a3,a4,ew,pw⟩:=I.sd
  obtain⟨kvh,m1,m2,m3,m4⟩:=I.hd
  push_cast[zil,↓zpf]
  refine⟨_,dS' d1 d3,_,rfl,_,m1,λo=> ?_⟩
  have s1:SameBut (· =S.hd) H (upd H S.hd (.frz o (.dT kvh))):=λy u e n=>by rw[zag n];exact e
  have hd1:upd H S.hd (.frz o (.dT kvh)) S.hd=some (.frz o (.dT kvh)):=zac
  revert s1 hd1
  generalize upd H S.hd (.frz o (.dT kvh))=H1
  intro s1 hd1
  have l1:∀ x,x=S.hd->zih (H x):=λx e=>by subst e;exact zqt m1
  have tk1:=zmx s1 l1
  have B1:=I.bk.sb s1 l1 λx e=>e ▸ I.ap.2.1
  have d11:=s1 _ _ d1 (zbe d1 m1 (by intro z;cases z))
  have lhd:∀ {x:Addr} {xs:List V},H x=some (.lst xs)->x≠S.hd:=λe=>zbe e m1 (by intro z;cases z)
  have ew1:=s1 _ _ ew (lhd ew)
  have R1:RowsM H1 S.rl S.rs rows:=⟨s1 _ _ I.rr.1 (lhd I.rr.1),I.rr.2.1,I.rr.2.2.1,zgv I.rr.2.2.2 λl hl r z=>s1 _ _ z (lhd z)⟩
  have gd1:=I.gd.keep tk1
  have pw1:Paired (WtAt H1 cs) ts (ziy cs.length outs):=Paired.mapP pw λt' k h=>h.keep tk1 λc e=>e
  obtain⟨db,hb⟩:=B1.bk.ob
  obtain⟨dp,hgp⟩:=B1.pk.ob
  have hM:=I.sz
  refine zabf (λi σ H'=>Same H1 H'/\∃ y3 y4,σ=[some (.ref S.A.b),some (.ref S.A.gp),some (.ref S.st),y3,y4]) ⟨Same.refl _,_,_,rfl⟩ (λi σ H' _ ⟨s',_⟩=>s' _ _ hd1) (λi b k v σ H' ek eb ⟨s',y3,y4,eσ⟩=> ?_) (λσ H' ⟨s',y3,y4,eσ⟩=> ?_)
  · subst eσ
    obtain⟨i0,j0,ek0,on⟩:=m3 _ (List.mem_of_getElem? ek)
    have ek0:k=[.inl i0,.inl j0]:=ek0
    subst ek0
    have eb:H' b=some (.tup [.int i0,.int j0]):=eb
    obtain⟨v0,ev,iv⟩:=m4 i0 j0 on
    have dg:∀ {H2:Hp},Same H1 H2->H2 b=some (.tup [.int i0,.int j0])->DGet H2 S.hd (.ref b) (some v0):=λs2 eb=>.inr ⟨kvh,[.inl i0,.inl j0],b,.inr ⟨o,s2 _ _ hd1⟩,rfl,eb,ev.symm⟩
    push_cast[↓zpd,↓zpe]
    refine⟨_,_,s' _ _ hb,zo0 (by decide +kernel),S.A,w,rows,nn,cs,outs,b,i0,j0,rfl,T,TP,B1.same s',eb,λ_ v' H2 hv' s2=> ?_,λz=>absurd on z⟩
    rw[iv]at hv'
    cases hv'
    have s12:=s'.trans s2
    refine⟨_,dS' (s12 _ _ d11) d3,_,rfl,_,dg s12 (s2 _ _ eb),zaf1 ((zmv gd1 iv).keep s12.tk) ?_⟩
    push_cast[]
    exact s12
  · subst eσ
    push_cast[↓zpi]
    refine⟨_,dS' (s' _ _ d11) d4,_,.inl ⟨_,SqL.of (s' _ _ R1.1),rfl⟩,by rw[List.length_map];have:=R1.2.2.2.length;omega,by rw[List.length_map];have:=R1.2.2.2.length;omega,?_⟩
    have hrl:=R1.2.2.2.length
    rw[List.length_map,hrl]
    refine zfw (λi σ H2=>Same H1 H2/\∃ y3 y4,σ=[some (.ref S.A.b),some (.ref S.A.gp),some (.ref S.st),y3,y4]) ⟨s',_,_,rfl⟩ (λi σ H2 hi ⟨s2,y3,y4,ez⟩=> ?_) (λσ H2 ⟨s2,y3,y4,ez⟩=> ?_)
    · subst ez
      push_cast[↓zpg,↓zph,Int.zero_add]
      have er:=List.getElem?_eq_getElem hi
      refine⟨_,_,s2 _ _ hgp,zxr _ _ _,S.A.gp,S.A.cl,w,rows,nn,_,rfl,TP,(B1.same s2).pk,λi' row ei er' l hl=> ?_,λz=>by omega⟩
      obtain rfl:i=i':=by omega
      rw[er]at er'
      cases er'
      have sl:=zaj (o:=.lst rows[i]) hl
      have el:upd H2 l (.lst rows[i]) l=some (.lst rows[i]):=zac
      show ∃ _,_
      revert sl el
      generalize upd H2 l (.lst rows[i])=H3
      intro sl el
      have s3:=s2.trans sl
      refine⟨_,dS' (s3 _ _ d11) d4,(R1.same s3).ix er rfl λl' _ hl'=>zaf2 (SqL.of el) (SqL.of hl') (λv hv=>(gd1.1 _ (List.mem_of_getElem? er) v hv).keep s3.tk) ?_⟩
      push_cast[]
      exact s3
    · subst ez
      push_cast[↓zpj]
      refine⟨_,_,s2 _ _ hb,zo0 (by decide +kernel),S.A,w,rows,nn,cs,outs,rfl,T,B1.same s2,λl H3 hl s3 el=> ?_⟩
      have s23:=s2.trans s3
      have hts:ts.length<=100:=by
        have h1:=pw.length
        have h2:=zt5 cs.length outs
        omega
      refine⟨_,dS' (s23 _ _ d11) d5,wl,rfl,.inl ⟨⟨_,SqL.of (s23 _ _ ew1)⟩,?_⟩⟩
      refine zaa0 (xs:=ts.map V.ref) (zm1 _ (by rw[List.length_map];omega)) (λi ys H4=>H4=H3/\ys=nats ((ziy cs.length outs).take i)) ⟨rfl,by simp[nats]⟩ (λi ys H4 _ ⟨e,_⟩=>by rw[e];exact SqL.of (s23 _ _ ew1)) (λi x ys H4 hx hyl ⟨e,ey⟩=> ?_) λys H4 hyl ⟨e,ey⟩ p hp=> ?_
      · subst e
        rw[List.getElem?_map]at hx
        cases et:ts[i]? with
        | none=>rw[et]at hx;cases hx
        | some tt =>
          rw[et]at hx
          cases hx
          have hi:i<(ziy cs.length outs).length:=by have:=(List.getElem?_eq_some_iff.mp et).1;have:=pw1.length;omega
          have ek:=List.getElem?_eq_getElem hi
          obtain⟨t2,e2,p,c',e3,e4,e5⟩:=zfm pw1 ek
          rw[et]at e2;cases e2
          push_cast[capV]
          refine zge (s23 _ _ e4) (n:=0) rfl rfl ⟨rfl,?_⟩
          rw[ey,List.take_succ,ek]
          unfold nats
          rw[List.map_append]
          rfl
      · subst e
        rw[List.length_map,pw1.length,List.take_length]at ey
        subst ey
        have sp:=zaj (o:=.lst (nats (ziy cs.length outs))) hp
        refine zafi (SqL.of (sp _ _ el)) (SqL.of zac) (λv hv=> ?_) ?_
        · obtain⟨k,_,rfl⟩:=List.mem_map.mp hv
          rfl
        have s4:=s23.trans sp
        revert s4
        generalize upd H4 p (.lst (nats (ziy cs.length outs)))=H5
        intro s4
        push_cast[]
        refine⟨_,_,s4 _ _ hgp,zxs _ _ _,S.A.gp,S.A.cl,w,rows,nn,rfl,TP,(B1.same s4).pk,_,dS' (s4 _ _ d11) d6,?_⟩
        push_cast[]
        exact q _
theorem zwa(h:zeq K a vs H Q E):vs.length=3:=by
 obtain⟨_,_,_,_,_,_,_,_,_,_,rfl,_⟩:=h
 rfl
def HandP(rows:List (List V))(w b j:Nat)(kvs:List (List Key × V)):Prop:=kvs.length<=b * w+j/\(∀ p∈kvs,∃ i j:Int,p.1=[.inl i,.inl j]/\onPl rows w i j)/\∀ i k:Nat,(i<b/\k<w\/i=b/\k<j)->valV kvs [.inl (i:Int),.inl (k:Int)]=(rows[i]?).bind λr=>r[k]?
theorem HandP.put {rows:List (List V)} {w b j:Nat} {kvs:List (List Key × V)} {row:List V} {v:V} (h:HandP rows w b j kvs) (er:rows[b]? =some row) (ev:row[j]? =some v) (hj:j<w):HandP rows w b (j+1) (putK kvs [.inl (b:Int),.inl (j:Int)] v):=by
  obtain⟨h1,h2,h3⟩:=h
  have hb:=(List.getElem?_eq_some_iff.mp er).1
  refine⟨?_,λp hp=> ?_,λi k hik=> ?_⟩
  · have:=zdu kvs [.inl (b:Int),.inl (j:Int)] v
    omega
  · rcases zyu hp with z | ⟨p',hp',z⟩
    ·exact⟨_,_,z,by omega,by omega,by omega,by omega⟩
    · obtain⟨i,j,e1,e2⟩:=h2 p' hp'
      exact⟨i,j,z ▸ e1,e2⟩
  · rw [ze3]
    by_cases e:i=b/\k=j
    · obtain⟨rfl,rfl⟩:=e
      rw[if_pos rfl,er]
      exact ev.symm
    · rw[if_neg (by
        intro z
        injection z with z1 z2
        injection z2 with z2 _
        injection z1 with z1
        injection z2 with z2
        exact e ⟨by omega,by omega⟩)]
      exact h3 i k (by omega)
theorem HandP.next{rows:List (List V)}{w b:Nat}{kvs:List (List Key × V)}(h:HandP rows w b w kvs):HandP rows w (b+1) 0 kvs:=by
 obtain⟨h1,h2,h3⟩:=h
 exact⟨by rw[Nat.succ_mul];omega,h2,λi k hik=>h3 i k (by omega)⟩
theorem HandP.full{rows:List (List V)}{w:Nat}{kvs:List (List Key × V)}{hd:Addr}(h:HandP rows w rows.length 0 kvs)(e:H hd=some (.dT kvs))(hw:∀ r∈rows,r.length=w)(hl:rows.length * w<=500):HandD H hd [] rows w:=by
 obtain⟨h1,h2,h3⟩:=h
 refine⟨kvs,e,by simp;omega,h2,λi j on=> ?_⟩
 have on':=on
 obtain⟨v,ev⟩:=zadv (i:=i.toNat) (j:=j.toNat) hw (by omega) (by omega) []
 have e1:=h3 i.toNat j.toNat (.inl ⟨by omega,by omega⟩)
 have z1:((i.toNat:Nat):Int)=i:=by omega
 have z2:((j.toNat:Nat):Int)=j:=by omega
 rw[z1,z2]at e1 ev
 refine⟨v,?_,ev⟩
 rw[e1]
 unfold zec at ev
 exact ev
structure Fi(a:Ad)(Hs:Hp)(lp p cl st hd rl wl:Addr)(rs:List Addr)(kvs:List (Key × V))(n r c w:Nat)(rows:List (List V))(m b j:Nat)(H:Hp):Prop where
 sm:Same Hs H
 ly:LayAt a H lp n r c w
 pk:∃ rows0,rows0.length=rows.length/\(∀ i,i<m->rows0[i]? =rows[i]?)/\PlankAt a H p cl w rows0 m
 rr:RowsM H rl rs rows
 gr:zabk H rows
 st:H st=some (.dK kvs)
 wl:H wl=some (.lst [])
 hd:∃ kvh,H hd=some (.dT kvh)/\HandP rows w b j kvh
theorem zah5 {Hs:Hp} {s sz lp p cl st hd rl wl:Addr} {rs:List Addr} {kvs:List (Key × V)} {n r c w:Nat} {rows:List (List V)} {x most:Int} {D:Ends} (TP:zc0 K a) (kh:valV kvs (.inr "hand")=some (.ref hd)) (kr:valV kvs (.inr "rows")=some (.ref rl)) (hW:∀ r∈rows,r.length=w) (hw:1<=w) (hw6:w<=6) (hM:rows.length<=30)
    (fp:Hs p=none) (fc:Hs cl=none) (fh:Hs hd=none) (ncr:cl≠rl) (ncs:cl∉rs) (ncw:cl≠wl) (I:Fi a Hs lp p cl st hd rl wl rs kvs n r c w rows 0 0 0 H) {y8 y9 y10 y11:Option V}
    (q:∀ H' y8 y9,Fi a Hs lp p cl st hd rl wl rs kvs n r c w rows rows.length rows.length 0 H'->D.nx [some (.ref s),some (.int x),some (.int most),some (.ref sz),some (.ref lp),some (.ref p),some (.ref rl),some (.ref st),y8,y9,y10,y11] H') :
    rd_law_15 K a (λ_=>E) (λ_=>E) D [some (.ref s),some (.int x),some (.int most),some (.ref sz),some (.ref lp),some (.ref p),some (.ref rl),some (.ref st),y8,y9,y10,y11] H:=by
  have hrl:rs.length=rows.length:=I.rr.2.2.2.length
  push_cast[↓zvv]
  refine⟨_,.inl ⟨_,SqL.of I.rr.1,rfl⟩,by rw[List.length_map];omega,by rw[List.length_map];omega,?_⟩
  rw[List.length_map,hrl]
  refine zfw (λb σ H'=>Fi a Hs lp p cl st hd rl wl rs kvs n r c w rows b b 0 H'/\∃ y8 y9,σ=[some (.ref s),some (.int x),some (.int most),some (.ref sz),some (.ref lp),some (.ref p),some (.ref rl),some (.ref st),y8,y9,y10,y11]) ⟨I,_,_,rfl⟩ (λb σ H' hb ⟨J,y8,y9,ez⟩=> ?_) (λσ H' ⟨J,y8,y9,ez⟩=> ?_)
  · subst ez
    obtain⟨rows0,e0,ea,P⟩:=J.pk
    obtain⟨dp,ep⟩:=P.ob
    obtain⟨ts,ecl,_⟩:=P.ls
    have er:=List.getElem?_eq_getElem hb
    have hrow:=hW _ (List.mem_of_getElem? er)
    push_cast[↓zvs,Int.zero_add]
    refine⟨_,_,ep,zyq _ _ _,J.rr.ix er rfl λl _ hl=>⟨_,_,rfl,.inl (SqL.of hl),λl2 hl2=> ?_⟩⟩
    have s1:=zaj (o:=.lst rows[b]) hl2
    have el2:upd H' l2 (.lst rows[b]) l2=some (.lst rows[b]):=zac
    revert s1 el2
    generalize upd H' l2 (.lst rows[b])=H1
    intro s1 el2
    refine⟨p,cl,w,rows0,b,(b:Int),l2,rows[b],rfl,TP,P.same s1,SqL.of el2,by omega,λb' eb hb' hyl H2 P2 s2=> ?_,λz=>by omega⟩
    obtain rfl:b=b':=by omega
    obtain⟨kvh,m1,hp⟩:=J.hd
    obtain⟨dl,el⟩:=J.ly.ob
    have kk:∀ {y:Addr} {o:HO},H' y=some o->y≠p->y≠cl->H2 y=some o:=λe n1 n2=>s2 _ _ (s1 _ _ e) λz=>z.elim n1 n2
    have npl:∀ {y:Addr} {o:HO},H' y=some o->(∀ C dx fs,o≠.ins C dx fs)->y≠p:=λe hn z=>by rw[z,ep]at e;exact hn _ _ _ (Option.some.inj e).symm
    have tk:zgg H' H2:=λy xs e=>kk e (npl e (by intro _ _ _ z;cases z)) (zbe e ecl (by intro z;cases z))
    have J2:Fi a Hs lp p cl st hd rl wl rs kvs n r c w rows (b+1) b 0 H2:=by
      refine⟨λy o e=>kk (J.sm _ _ e) (zai e fp) (zai e fc),⟨⟨dl,kk el (λz=> ?_) (zbe el ecl (by intro z;cases z))⟩,J.ly.hn,J.ly.hr,J.ly.hc,J.ly.h1,J.ly.hw⟩,⟨rows0.set b rows[b],by rw[List.length_set];exact e0,λi hi=> ?_,P2⟩,⟨kk J.rr.1 (npl J.rr.1 (by intro _ _ _ z;cases z)) (λz=>ncr z.symm),J.rr.2.1,J.rr.2.2.1,zgv J.rr.2.2.2 λl hl r z=>kk z (npl z (by intro _ _ _ z;cases z)) λy=>ncs (y ▸ hl)⟩,λr' hr' v hv=>(J.gr r' hr' v hv).keep tk,kk J.st (npl J.st (by intro _ _ _ z;cases z)) (zbe J.st ecl (by intro z;cases z)),kk J.wl (npl J.wl (by intro _ _ _ z;cases z)) (λz=>ncw z.symm),⟨kvh,kk m1 (npl m1 (by intro _ _ _ z;cases z)) (zbe m1 ecl (by intro z;cases z)),hp⟩⟩
      · rw[z,ep]at el
        injection el with el
        injection el with _ _ el
        simp[pf,lf]at el
      · by_cases z:i=b
        · subst z
          rw[List.getElem?_set_self (by omega),er]
        · rw[List.getElem?_set_ne (λy=>z y.symm)]
          exact ea i (by omega)
    push_cast[↓zvu]
    refine J2.rr.ix er rfl λl3 _ hl3=>⟨_,.inl ⟨_,SqL.of hl3,rfl⟩,by omega,by omega,?_⟩
    rw[hrow]
    refine zfw (λj σ H3=>Fi a Hs lp p cl st hd rl wl rs kvs n r c w rows (b+1) b j H3/\∃ y9,σ=[some (.ref s),some (.int x),some (.int most),some (.ref sz),some (.ref lp),some (.ref p),some (.ref rl),some (.ref st),some (.int b),y9,y10,y11]) ⟨J2,_,rfl⟩ (λj σ H3 hj ⟨J3,y9,ez⟩=> ?_) (λσ H3 ⟨J3,y9,ez⟩=> ?_)
    · subst ez
      push_cast[↓zvt,Int.zero_add]
      have ev:=List.getElem?_eq_getElem (show j<rows[b].length by omega)
      obtain⟨kvh3,m3,hp3⟩:=J3.hd
      refine J3.rr.ix er rfl λl4 _ hl4=>zh5 (SqL.of hl4) (n:=j) rfl ev ⟨_,dS' J3.st kh,by decide,λt ht=> ?_⟩
      have st':=zaj (o:=.tup [.int (b:Int),.int (j:Int)]) ht
      have et:upd H3 t (.tup [.int (b:Int),.int (j:Int)]) t=some (.tup [.int (b:Int),.int (j:Int)]):=zac
      revert st' et
      generalize upd H3 t (.tup [.int (b:Int),.int (j:Int)])=H4
      intro st' et
      have hlen:=hp3.1
      have hbw:b * w<=30 * 6:=Nat.mul_le_mul (by omega) hw6
      refine⟨_,rfl,_,pT2 (st' _ _ m3) et (by omega),?_⟩
      have s5:SameBut (· =hd) H4 (upd H4 hd (.dT (putK kvh3 [.inl (b:Int),.inl (j:Int)] rows[b][j]))):=λy o e n=>by rw[zag n];exact e
      have k5:∀ {y:Addr} {o:HO},H3 y=some o->y≠hd->upd H4 hd (.dT (putK kvh3 [.inl (b:Int),.inl (j:Int)] rows[b][j])) y=some o:=λe n=>s5 _ _ (st' _ _ e) n
      have l5:∀ y,y=hd->zih (H4 y):=λy e=>by subst e;exact zqt (st' _ _ m3)
      have nh:∀ {y:Addr} {o:HO},H3 y=some o->(∀ kv,o≠.dT kv)->y≠hd:=λe hn z=>by rw[z,m3]at e;exact hn _ (Option.some.inj e).symm
      obtain⟨rows3,e3,ea3,P3⟩:=J3.pk
      obtain⟨dl3,el3⟩:=J3.ly.ob
      have tk5:zgg H3 (upd H4 hd (.dT (putK kvh3 [.inl (b:Int),.inl (j:Int)] rows[b][j]))):=λy xs e=>k5 e (nh e (by intro _ z;cases z))
      exact⟨λy o e=>k5 (J3.sm _ _ e) (zai e fh),⟨⟨dl3,k5 el3 (nh el3 (by intro _ z;cases z))⟩,J3.ly.hn,J3.ly.hr,J3.ly.hc,J3.ly.h1,J3.ly.hw⟩,⟨rows3,e3,ea3,(P3.same st').sbL s5 l5 λz=>by
        obtain⟨ts3,ec3,_⟩:=P3.ls
        exact nh ec3 (by intro _ z;cases z) z⟩,⟨k5 J3.rr.1 (nh J3.rr.1 (by intro _ z;cases z)),J3.rr.2.1,J3.rr.2.2.1,zgv J3.rr.2.2.2 λl hl r z=>k5 z (nh z (by intro _ z;cases z))⟩,λr' hr' v hv=>(J3.gr r' hr' v hv).keep tk5,k5 J3.st (nh J3.st (by intro _ z;cases z)),k5 J3.wl (nh J3.wl (by intro _ z;cases z)),⟨_,zac,hp3.put er ev (by omega)⟩⟩
    · subst ez
      obtain⟨kvh3,m3,hp3⟩:=J3.hd
      exact⟨⟨J3.sm,J3.ly,J3.pk,J3.rr,J3.gr,J3.st,J3.wl,⟨kvh3,m3,hp3.next⟩⟩,_,_,rfl⟩
  · subst ez
    exact q _ _ _ J
theorem zada{trs:List (TE × TE)}{σ:St}:zaed trs σ H Q=(∀ p,H p=none->zqi trs σ (upd H p (.dK [])) λps H2=>H2 p=some (.dK [])/\∃ kvs:List (Key × V),ps=kvs.map (λkv=>(kV kv.1,kv.2))/\kvs.length<=15/\Q (.ref p) (upd H2 p (.dK (zh4 [] kvs)))):=rfl
theorem zadb{σ:St}{QP:List (V × V)->Hp->Prop}:zqi [] σ H QP=QP [] H:=rfl
theorem zadc{σ:St}{QP:List (V × V)->Hp->Prop}{tk tv:TE}{r:List (TE × TE)}:zqi ((tk,tv)::r) σ H QP=tk σ H λx H1=>tv σ H1 λy H2=>zqi r σ H2 λps H3=>QP ((x,y)::ps) H3:=rfl
theorem zadd(ns:List Int)(lo hi:Option Int):∃ ms:List Int,cutV (ns.map V.int) lo hi=ms.map V.int/\ms.length<=ns.length:=by
 unfold cutV
 rw[<-List.map_drop,<-List.map_take]
 exact⟨_,rfl,by simp;omega⟩
theorem zai2 {S:SA} {n r c w:Nat} {rows:List (List V)} {nn:Nat} {s sz:Addr} {ns:List Int} {X most:Int} {y8 y9 y11:Option V} (T:TB K a) (TP:zc0 K a) (TL:TLay K a) (TX:TR K a) (I:∀ zs r0,H r0=none->ST a (upd H r0 (.lst zs)) { S with z:=r0 } n r c w zs rows nn [] (λ_=>false)) (hs:SqL K H s (ns.map V.int)) (hl:ns.length<=63) (hnn:nn<=30) (q:∀ H',Q (.bl true) H') :
    rd_law_24 K a (λ_=>E) (λ_=>E) { (ends Q)with nx:=rd_law_25 K a (λ_=>E) (λ_=>E) (ends Q) } [some (.ref s),some (.int X),some (.int most),some (.ref sz),some (.ref S.lp),some (.ref S.A.gp),some (.ref S.rl),some (.ref S.st),y8,y9,some (.ref S.A.b),y11] H:=by
  push_cast[↓zv4]
  obtain⟨ms,ems,hms⟩:=zadd ns none (some 60)
  refine sl_l hs λrr hrr=> ?_
  rw[ems]
  refine⟨rr,rfl,.inl ⟨⟨_,SqL.of zac⟩,?_⟩⟩
  have I0:=I (ms.map V.int) rr hrr
  revert I0
  generalize upd H rr (.lst (ms.map V.int))=H1
  intro I0
  refine zjb (xs:=ms.map V.int) (λi σ H'=>(∃ rows nn cs outs,ST a H' { S with z:=rr } n r c w (ms.map V.int) rows nn cs outs/\(∀ k:Nat,cs.length<=k->outs k=false)/\cs.length<=i/\nn<=30+i)/\∃ y8 y9 y11,σ=[some (.ref s),some (.int X),some (.int most),some (.ref sz),some (.ref S.lp),some (.ref S.A.gp),some (.ref S.rl),some (.ref S.st),y8,y9,some (.ref S.A.b),y11])
    ⟨⟨rows,nn,[],_,I0,λ_ _=>rfl,Nat.zero_le _,hnn⟩,_,_,_,rfl⟩ (λi σ H' _ ⟨⟨_,_,_,_,J,_⟩,_⟩=>SqL.of J.sc) (λi x σ H' hx ⟨⟨rows,nn,cs,outs,J,ho,hcs,hnn⟩,y8,y9,y11,ez⟩=> ?_) (λσ H' ⟨⟨rows,nn,cs,outs,J,ho,hcs,hnn⟩,y8,y9,y11,ez⟩=> ?_)
  · subst ez
    have hi:=(List.getElem?_eq_some_iff.mp hx).1
    rw[List.length_map]at hi
    obtain⟨cell,_,rfl⟩:=List.mem_map.mp (List.mem_of_getElem? hx)
    have right:∀ {H2:Hp} {rows:List (List V)} {nn:Nat} {cs:List Ch} {outs:Int->Bool},ST a H2 { S with z:=rr } n r c w (ms.map V.int) rows nn cs outs->(∀ k:Nat,cs.length<=k->outs k=false)->cs.length<=i+1->nn<=30+(i+1)->rd_law_23 K a (λ_=>E) (λ_=>E) { (ends Q)with nx:=λσ H'=>(∃ rows nn cs outs,ST a H' { S with z:=rr } n r c w (ms.map V.int) rows nn cs outs/\(∀ k:Nat,cs.length<=k->outs k=false)/\cs.length<=i+1/\nn<=30+(i+1))/\∃ y8 y9 y11,σ=[some (.ref s),some (.int X),some (.int most),some (.ref sz),some (.ref S.lp),some (.ref S.A.gp),some (.ref S.rl),some (.ref S.st),y8,y9,some (.ref S.A.b),y11],ct:=λσ H'=>(∃ rows nn cs outs,ST a H' { S with z:=rr } n r c w (ms.map V.int) rows nn cs outs/\(∀ k:Nat,cs.length<=k->outs k=false)/\cs.length<=i+1/\nn<=30+(i+1))/\∃ y8 y9 y11,σ=[some (.ref s),some (.int X),some (.int most),some (.ref sz),some (.ref S.lp),some (.ref S.A.gp),some (.ref S.rl),some (.ref S.st),y8,y9,some (.ref S.A.b),y11],bk:=rd_law_25 K a (λ_=>E) (λ_=>E) (ends Q) } [some (.ref s),some (.int X),some (.int most),some (.ref sz),some (.ref S.lp),some (.ref S.A.gp),some (.ref S.rl),some (.ref S.st),y8,y9,some (.ref S.A.b),some (.int cell)] H2:=λ{H2 rows nn cs outs} J ho h1 h2=>by
      obtain⟨kvs,wl,ts,d1,d2,d3,d4⟩:=J.sd
      have hz:=J.sz
      push_cast[↓zv2,↓zv3,↓zcl]
      refine⟨_,dS' d1 d3,S.lp,S.hd,S.A,n,r,c,w,rows,nn,cs,outs,_,rfl,ziq,T,TP,TL,TX,J.ly,by omega,by omega,by omega,by omega,J.bk,by omega,J.hd,J.gd,λH3 s3=> ?_⟩
      push_cast[]
      exact⟨rows,nn,cs,outs,J.same s3,ho,h1,h2⟩
    have hz:=J.sz
    have q9:=ziq (c:=cell) (t:=9)
    push_cast[↓zvz,↓zv0,↓zv1,↓zcl]
    split
    · refine⟨_,.inl ⟨_,SqL.of J.rr.1,rfl⟩,?_⟩
      have hrs:=J.rr.2.2.2.length
      rw[List.length_map,hrs]
      refine⟨by omega,?_⟩
      obtain⟨b,eb,hb⟩:∃ b:Nat,mill cell 9 % (rows.length:Nat)=b/\b<rows.length:=⟨(mill cell 9 % (rows.length:Nat)).toNat,by have:=Int.emod_nonneg (mill cell 9) (show(rows.length:Int)≠0 by omega);omega,by have:=Int.emod_nonneg (mill cell 9) (show(rows.length:Int)≠0 by omega);have:=Int.emod_lt_of_pos (mill cell 9) (show 0<(rows.length:Int) by omega);omega⟩
      rw[eb]
      refine⟨{ S with z:=rr },n,r,c,w,_,rows,nn,cs,outs,b,rfl,T,TP,J,hb,by omega,by omega,λrows' H2 J2=>right J2 (λk hk=> ?_) (by omega) (by omega)⟩
      cases e:zix cs outs b k with
      | false=>rfl
      | true =>
        rcases outsW_out.mp e with z | z
        ·rw[ho k hk]at z;cases z
        · have:=zqa (zkn.2.1 k z).2
          omega
    ·refine⟨{ S with z:=rr },n,r,c,w,_,rows,nn,cs,outs,cell,rfl,T,TP,TL,J,ho _ (Nat.le_refl _),by omega,λch H2 J2=>right J2 (λk hk=>ho k (by rw[List.length_append]at hk;omega)) (by simp;omega) (by omega)⟩
  · subst ez
    push_cast[↓zv5]
    exact⟨{ S with z:=rr },n,r,c,w,_,rows,nn,cs,outs,rfl,T,TP,J,by rw[List.length_map]at hcs;omega,q⟩
theorem zah6{s:Addr}{ns:List Int}{X most:Int}(T:TB K a)(TP:zc0 K a)(TL:TLay K a)(TX:TR K a)(hs:SqL K H s (ns.map V.int))(hl:ns.length<=63)(hX:0<=X)(hm:1<=most)(hm6:most<=6)(q:∀ H',Q (.bl true) H') :
  rd_law_5 K a (λ_=>E) (λ_=>E) { (ends Q)with nx:=tSeq (rd_law_6 K a (λ_=>E) (λ_=>E)) (tSeq (rd_law_7 K a (λ_=>E) (λ_=>E)) (tSeq (rd_law_8 K a (λ_=>E) (λ_=>E)) (tSeq (rd_law_9 K a (λ_=>E) (λ_=>E)) (tSeq (rd_law_10 K a (λ_=>E) (λ_=>E)) (tSeq (rd_law_11 K a (λ_=>E) (λ_=>E)) (tSeq (rd_law_15 K a (λ_=>E) (λ_=>E)) (tSeq (rd_law_16 K a (λ_=>E) (λ_=>E)) (tSeq (rd_law_18 K a (λ_=>E) (λ_=>E)) (tSeq (rd_law_24 K a (λ_=>E) (λ_=>E)) (rd_law_25 K a (λ_=>E) (λ_=>E))))))))))) (ends Q) } [some (.ref s),some (.int X),some (.int most),none,none,none,none,none,none,none,none,none] H:=by
 push_cast[↓zxm,↓zxn,↓zxo,↓zxp]
 have hx4:0<=X / 4:=by omega
 refine⟨⟨by omega,by omega⟩,by omega,⟨by omega,by omega⟩,by omega,⟨by omega,by omega⟩,by omega,by decide,λsz hsz=> ?_⟩
 generalize X / 4=x at hx4 ⊢
 obtain⟨n,en,hn⟩:∃ n:Nat,1+x % most=n/\1<=n/\n<=6:=⟨(1+x % most).toNat,by have:=Int.emod_nonneg x (show most≠0 by omega);omega,by have:=Int.emod_nonneg x (show most≠0 by omega);have:=Int.emod_lt_of_pos x (show 0<most by omega);omega⟩
 obtain⟨r,erx,hr⟩:∃ n:Nat,1+x / 6 % most=n/\1<=n/\n<=6:=⟨(1+x / 6 % most).toNat,by have:=Int.emod_nonneg (x / 6) (show most≠0 by omega);omega,by have:=Int.emod_nonneg (x / 6) (show most≠0 by omega);have:=Int.emod_lt_of_pos (x / 6) (show 0<most by omega);omega⟩
 obtain⟨c,ecx,hc⟩:∃ n:Nat,1+x / 36 % most=n/\1<=n/\n<=6:=⟨(1+x / 36 % most).toNat,by have:=Int.emod_nonneg (x / 36) (show most≠0 by omega);omega,by have:=Int.emod_nonneg (x / 36) (show most≠0 by omega);have:=Int.emod_lt_of_pos (x / 36) (show 0<most by omega);omega⟩
 obtain⟨w,ewx,hw⟩:∃ n:Nat,1+x / 216 % 6=n/\1<=n/\n<=6:=⟨(1+x / 216 % 6).toNat,by omega,by omega⟩
 rw[en,erx,ecx]
 have s1:=zaj (o:=.lst [V.int n,V.int r,V.int c]) hsz
 refine zh5 (SqL.of zac) (n:=0) rfl rfl (zh5 (SqL.of zac) (n:=1) rfl rfl (zh5 (SqL.of zac) (n:=2) rfl rfl ⟨⟨by omega,by omega⟩,?_⟩))
 rw[ewx]
 revert s1
 generalize upd H sz (.lst [V.int n,V.int r,V.int c])=H1
 intro s1 lp dx hlp hdx ndx
 have s01:Same H1 (upd (upd H1 dx (.own lp)) lp (.ins (a "Layout") dx [])):=(zaj hdx).trans (zaj (by rw[zag ndx.symm];exact hlp))
 refine⟨lp,dx,n,r,c,w,rfl,TL,zac,by omega,by omega,by omega,hw.1,by omega,λH2 L2 sb2=>⟨rfl,?_⟩⟩
 have s2:Same H1 H2:=λy o e=>sb2 _ _ (s01 _ _ e) (zai e hlp)
 obtain⟨dl,el⟩:=L2.ob
 refine⟨_,_,el,zgw (by decide +kernel),lp,n,r,c,w,rfl,TL,TP,L2,λp cl H3 hp hcl P3 s3=> ?_⟩
 have L3:=L2.same s3
 have hs2:=s2.seq (s1.seq hs)
 have hs3:=s3.seq hs2
 obtain⟨M,eM⟩:∃ M,n+r+c+r+c=M:=⟨_,rfl⟩
 rw[eM]at P3
 have hM:5<=M/\M<=30:=by omega
 have s23:Same H2 H3:=s3
 clear s1 s2 s3 s01 sb2 el L2
 obtain⟨dp,ep⟩:=P3.ob
 obtain⟨ts0,ecl,_⟩:=P3.ls
 push_cast[↓zxq]
 refine⟨_,_,ep,zvl _ _ _ (by decide +kernel) (by decide +kernel) (by decide +kernel),p,cl,w,_,0,rfl,TP,P3,_,rfl,by rw[List.length_replicate];omega,by rw[List.length_replicate];omega,?_⟩
 rw[Int.toNat_natCast,List.length_replicate]
 refine zjw (zm1 M (by omega)) (λi ys H'=>Same H3 H'/\∃ rs:List Addr,ys=rs.map V.ref/\rs.Nodup/\Paired (λl r=>H' l=some (.lst r)/\H3 l=none) rs (List.replicate i (List.replicate w .non))) ⟨Same.refl _,[],rfl,List.nodup_nil,.nil⟩ (λi ys H' hi _ ⟨s,rs,e,nd,P⟩=> ?_) (λys H4 hlen ⟨s4,rs,e,nd,P⟩ rl hrl=> ?_)
 ·push_cast[capV]
  refine⟨by decide,λt ht=> ?_⟩
  have st:=zaj (o:=.lst [V.non]) ht
  have s5:=s.trans st
  refine⟨_,_,s5 _ _ ep,zvl _ _ _ (by decide +kernel) (by decide +kernel) (by decide +kernel),p,cl,w,_,0,rfl,TP,P3.same s5,?_⟩
  refine .inl ⟨t,w,[.non],rfl,rfl,zac,by omega,by omega,zm1 _ (by simp;omega),λu hu=> ?_⟩
  rw[Int.toNat_natCast,zafh]
  have su:=zaj (o:=.lst (List.replicate w V.non)) hu
  have s6:=st.trans su
  refine⟨s.trans s6,rs++[u],by rw[e,List.map_append];rfl,?_,?_⟩
  ·refine List.nodup_append.mpr ⟨nd,List.nodup_cons.mpr ⟨List.not_mem_nil,List.nodup_nil⟩,λy hy z hz=> ?_⟩
   rw[List.mem_singleton.mp hz]
   obtain⟨k,ek⟩:=ztb hy
   have hk:k<(List.replicate i (List.replicate w V.non)).length:=by have:=(List.getElem?_eq_some_iff.mp ek).1;have:=P.length;omega
   obtain⟨y2,e2,e3,_⟩:=zfm P (List.getElem?_eq_getElem hk)
   rw[ek]at e2;cases e2
   exact zai (st _ _ e3) hu
  ·rw[List.replicate_succ']
   exact Paired.snoc (Paired.mapP P λt r z=>⟨s6 _ _ z.1,z.2⟩) ⟨zac,s.free (st.free hu)⟩
 subst e
 have sr:=zaj (o:=.lst (rs.map V.ref)) hrl
 have s35:=s4.trans sr
 have pat:∀ {y:Addr},y∈rs->∃ row,H4 y=some (.lst row)/\H3 y=none:=λ{y} z=>by
  obtain⟨k,ek⟩:=ztb z
  have hk:k<(List.replicate M (List.replicate w V.non)).length:=by have:=(List.getElem?_eq_some_iff.mp ek).1;have:=P.length;omega
  obtain⟨y2,e2,e3,e4⟩:=zfm P (List.getElem?_eq_getElem hk)
  rw[ek]at e2;cases e2
  exact⟨_,e3,e4⟩
 have hnr:rl∉rs:=λz=>by
  obtain⟨row,e3,_⟩:=pat z
  rw[hrl]at e3;cases e3
 have R5:RowsM (upd H4 rl (.lst (rs.map V.ref))) rl rs (List.replicate M (List.replicate w V.non)):=⟨zac,nd,hnr,Paired.mapP P λt r z=>sr _ _ z.1⟩
 have frs:∀ l∈rs,H3 l=none:=λl hl=>by
  obtain⟨row,_,e4⟩:=pat hl
  exact e4
 have frl:H3 rl=none:=s4.free hrl
 revert s35 R5
 generalize upd H4 rl (.lst (rs.map V.ref))=H5
 intro s35 R5
 push_cast[↓zvq]
 refine⟨lp,rl,s,rs,_,n,r,c,w,ns,rfl,TL,L3.same s35,hn.1,hr.1,hc.1,hn.2,hr.2,hc.2,hw.2,R5,by rw[List.length_replicate,eM],λr' hr'=>by rw[List.eq_of_mem_replicate hr',List.length_replicate],λr' hr' v hv=>by
  rw[List.eq_of_mem_replicate hr']at hv
  rw[List.eq_of_mem_replicate hv]
  trivial,s35.seq hs3,hl,λrows H6 e1 hW R6 g6 s6=> ?_⟩
 rw[List.length_replicate]at e1
 have s36:Same H3 H6:=λy o e=>s6 _ _ (s35 _ _ e) λz=>by rw[frs y z]at e;cases e
 have L6:=L3.same s36
 have P6:=P3.same s36
 have hs6:=s36.seq hs3
 push_cast[↓zvr,↓zada,↓zadc,↓zadb]
 intro st hst hd hhd
 refine⟨Nat.zero_le _,λwl hwl=> ?_⟩
 have n1:hd≠st:=(zai (zac (H:=H6) (a:=st) (o:=.dK [])) hhd).symm
 have hhd6:H6 hd=none:=by rw[zag n1]at hhd;exact hhd
 have n2:wl≠hd:=(zai (zac (H:=upd H6 st (.dK [])) (a:=hd) (o:=.dT [])) hwl).symm
 have n3:wl≠st:=(zai (by rw[zag n1.symm];exact zac) hwl).symm
 have hwl6:H6 wl=none:=by rw[zag n2,zag n3]at hwl;exact hwl
 have s7:Same H6 (upd (upd (upd H6 st (.dK [])) hd (.dT [])) wl (.lst [])):=((zaj hst).trans (zaj hhd)).trans (zaj hwl)
 refine⟨_,.inl ⟨_,SqL.of (s7 _ _ R6.1),rfl⟩,by rw[zag n3.symm,zag n1.symm,zac],[(.inr "hand",.ref hd),(.inr "rows",.ref rl),(.inr "waits",.ref wl),(.inr "writings",.int (rs.map V.ref).length)],rfl,by simp,?_⟩
 have hrs:rs.length=rows.length:=R6.2.2.2.length
 rw[List.length_map,hrs]
 have hk:(zh4 [] [(.inr "hand",.ref hd),(.inr "rows",.ref rl),(.inr "waits",.ref wl),(.inr "writings",.int (rows.length:Nat))]).length<=10:=by
  have:=zid [(.inr "hand",.ref hd),(.inr "rows",.ref rl),(.inr "waits",.ref wl),(.inr "writings",.int (rows.length:Nat))] []
  simp only[List.length_cons,List.length_nil]at this
  omega
 have hv:valV (zh4 [] [(.inr "hand",.ref hd),(.inr "rows",.ref rl),(.inr "waits",.ref wl),(.inr "writings",.int (rows.length:Nat))]) (.inr "hand")=some (.ref hd)/\valV (zh4 [] [(.inr "hand",.ref hd),(.inr "rows",.ref rl),(.inr "waits",.ref wl),(.inr "writings",.int (rows.length:Nat))]) (.inr "rows")=some (.ref rl)/\valV (zh4 [] [(.inr "hand",.ref hd),(.inr "rows",.ref rl),(.inr "waits",.ref wl),(.inr "writings",.int (rows.length:Nat))]) (.inr "waits")=some (.ref wl)/\valV (zh4 [] [(.inr "hand",.ref hd),(.inr "rows",.ref rl),(.inr "waits",.ref wl),(.inr "writings",.int (rows.length:Nat))]) (.inr "writings")=some (.int (rows.length:Nat)):=by
  simp only[zh4,List.foldl_cons,List.foldl_nil]
  refine⟨?_,?_,?_,?_⟩<;>repeat (rw[ze3];first | rw[if_pos rfl] | rw[if_neg (by decide +kernel)])
 revert hk hv
 generalize zh4 [] [(.inr "hand",.ref hd),(.inr "rows",.ref rl),(.inr "waits",.ref wl),(.inr "writings",.int (rows.length:Nat))]=kvs
 intro hk ⟨v1,v2,v3,v4⟩
 have s8:Same H6 (upd (upd (upd (upd H6 st (.dK [])) hd (.dT [])) wl (.lst [])) st (.dK kvs)):=λy o e=>by rw[zag (zai e hst)];exact s7 _ _ e
 have t1:upd (upd (upd (upd H6 st (.dK [])) hd (.dT [])) wl (.lst [])) st (.dK kvs) st=some (.dK kvs):=zac
 have t2:upd (upd (upd (upd H6 st (.dK [])) hd (.dT [])) wl (.lst [])) st (.dK kvs) wl=some (.lst []):=by rw[zag n3];exact zac
 have t3:upd (upd (upd (upd H6 st (.dK [])) hd (.dT [])) wl (.lst [])) st (.dK kvs) hd=some (.dT []):=by rw[zag n1,zag n2.symm];exact zac
 revert s8 t1 t2 t3
 generalize upd (upd (upd (upd H6 st (.dK [])) hd (.dT [])) wl (.lst [])) st (.dK kvs)=H7
 intro s8 t1 t2 t3
 have s37:=s36.trans s8
 have ncr:cl≠rl:=zai ecl frl
 have ncs:cl∉rs:=λz=>by rw[frs cl z]at ecl;cases ecl
 have ncw:cl≠wl:=zai (s36 _ _ ecl) hwl6
 have hrM:rows.length=M:=e1
 refine zah5 (Hs:=H2) (cl:=cl) (hd:=hd) (wl:=wl) (rs:=rs) (kvs:=kvs) (n:=n) (r:=r) (c:=c) (w:=w) (rows:=rows) TP v1 v2 hW hw.1 hw.2 (by omega) hp hcl (s23.free (s36.free hhd6)) ncr ncs ncw ⟨s23.trans s37,L3.same s37,⟨_,by rw[List.length_replicate,hrM],λi hi=>absurd hi (Nat.not_lt_zero _),P3.same s37⟩,R6.same s8,λr' hr' v hv=>(g6 r' hr' v hv).keep s8.tk,t1,t2,⟨[],t3,by simp,by simp,λi k h=>by omega⟩⟩ λH8 y8 y9 F=> ?_
 obtain⟨rows0,f1,f2,P8⟩:=F.pk
 have er0:rows0=rows:=List.ext_getElem? λi=>by
  rcases Nat.lt_or_ge i rows.length with z | z
  ·exact f2 i z
  ·rw[List.getElem?_eq_none (by omega),List.getElem?_eq_none z]
 subst er0
 obtain⟨kvh,t8,hf⟩:=F.hd
 push_cast[↓zvw]
 refine zac7 T TP P8 λA H9 eg ec off B9 s9=> ?_
 subst eg ec
 have HD:HandD H8 hd [] rows0 w:=hf.full t8 hW (Nat.le_trans (Nat.mul_le_mul (show rows0.length<=30 by omega) hw.2) (by decide))
 have gd8:goodH H8 [] rows0:=⟨F.gr,λc hc=>by cases hc⟩
 push_cast[↓zvx,↓zvy]
 refine⟨_,dS' (s9 _ _ F.st) v1,⟨by omega,by omega⟩,lp,hd,A,n,r,c,w,rows0,_,[],_,_,rfl,by omega,T,TP,TL,TX,F.ly.same s9,hn.2,hr.2,hc.2,hw.2,B9,by omega,HD.same s9,gd8.keep s9.tk,λH10 s10=> ?_⟩
 push_cast[]
 have s810:=s9.trans s10
 have offs:∀ {y:Addr} {o:HO},H8 y=some o->y≠A.cl->¬ A.F y:=λe n=>(off _ _ e).resolve_left n
 obtain⟨ts8,ecl8,_⟩:=P8.ls
 refine zai2 (S:=⟨A,lp,st,hd,rl,rs,lp⟩) (n:=n) (r:=r) (c:=c) (w:=w) (rows:=rows0) (nn:=rows0.length) T TP TL TX (λzs r0 hr0=> ?_) (s810.seq (F.sm.seq hs2)) hl (by omega) q
 have sr0:=zaj (o:=.lst zs) hr0
 have s811:=s810.trans sr0
 have nr0:∀ {y:Addr} {o:HO},H8 y=some o->y≠r0:=λe=>zai (s810 _ _ e) hr0
 refine⟨(B9.same s10).same sr0,F.ly.same s811,⟨kvs,wl,[],s811 _ _ F.st,by omega,v1,v2,v3,v4,offs F.wl (λz=>ncw z.symm),λz=> ?_,λz=> ?_,nr0 F.wl,s811 _ _ F.wl,.nil⟩,HD.same s811,F.rr.same s811,λk c' e=>by simp at e,gd8.keep s811.tk,⟨offs F.st (zbe F.st ecl8 (by intro z;cases z)),offs t8 (zbe t8 ecl8 (by intro z;cases z)),offs F.rr.1 (λz=>ncr z.symm),λl hl'=> ?_,(B9.same s10).off hr0⟩,⟨λz=> ?_,λz=> ?_⟩,zac,hn.1,hr.1,hc.1,hn.2,hr.2,hc.2,hw.2,by omega⟩
 ·rw[z,R6.1]at hwl6;cases hwl6
 ·obtain⟨xs,ex⟩:=R6.lst z
  rw[hwl6]at ex;cases ex
 ·obtain⟨xs,ex⟩:=F.rr.lst hl'
  exact offs ex λz=>ncs (z ▸ hl')
 ·exact nr0 F.rr.1 z.symm
 ·obtain⟨xs,ex⟩:=F.rr.lst z
  exact nr0 ex rfl
theorem zade(h:sp_law K a vs H Q E):zyp K a (λ_=>E) (ends Q) (zbu ["script","number","most","sizes","layout","plank","rows","state","block","at","hold","cell"] vs) H:=by
 obtain⟨s,ns,rfl,T,TP,TL,X,hs,hl,q⟩:=h
 push_cast[zyp,↓zxi,↓zxj,↓zxk,↓zxl,↓zcl,↓zh6]
 refine⟨ns,0,rfl,hs,by omega,?_⟩
 split
 ·exact zah6 T TP TL X hs hl ziq (by decide) (by decide) q
 ·exact zah6 T TP TL X hs hl ziq (by decide) (by decide) q
theorem zaf3(h:sp_law K a vs H Q E):vs.length=1:=by
 obtain⟨_,_,rfl,_⟩:=h
 rfl
end
end L2
set_option linter.all false
set_option maxRecDepth 100000
set_option maxHeartbeats 4000000
namespace L2
open PySem PySem.Spec PyProof.Rows
def top(i:Nat):Stmt:=PySem.Challenge.pw_holdback_k33_lowest_free.main.body.getD i (.Pass ⟨0,0,0,0⟩)
structure Txt(K:PySem.W.Frag)(mg:Str->Option Value)(a:Ad):Prop where
 c_Change:Cls K (a "Change")
 c_Hold:Cls K (a "Hold")
 c_Layout:Cls K (a "Layout")
 c_Plank:Cls K (a "Plank")
 r_HoldError:mg "HoldError"=some (.ref (a "HoldError"))
 g_HoldError:GV mg "HoldError" (.ref (a "HoldError"))
 x_HoldError:Exc K (a "HoldError")
 r_NoBlock:mg "NoBlock"=some (.ref (a "NoBlock"))
 g_NoBlock:GV mg "NoBlock" (.ref (a "NoBlock"))
 x_NoBlock:Exc K (a "NoBlock")
 r_NoChange:mg "NoChange"=some (.ref (a "NoChange"))
 g_NoChange:GV mg "NoChange" (.ref (a "NoChange"))
 x_NoChange:Exc K (a "NoChange")
 r_NoName:mg "NoName"=some (.ref (a "NoName"))
 g_NoName:GV mg "NoName" (.ref (a "NoName"))
 x_NoName:Exc K (a "NoName")
 r_NoPiece:mg "NoPiece"=some (.ref (a "NoPiece"))
 g_NoPiece:GV mg "NoPiece" (.ref (a "NoPiece"))
 x_NoPiece:Exc K (a "NoPiece")
 r_NoRoom:mg "NoRoom"=some (.ref (a "NoRoom"))
 g_NoRoom:GV mg "NoRoom" (.ref (a "NoRoom"))
 x_NoRoom:Exc K (a "NoRoom")
 r_NoRow:mg "NoRow"=some (.ref (a "NoRow"))
 g_NoRow:GV mg "NoRow" (.ref (a "NoRow"))
 x_NoRow:Exc K (a "NoRow")
 r_NotSound:mg "NotSound"=some (.ref (a "NotSound"))
 g_NotSound:GV mg "NotSound" (.ref (a "NotSound"))
 x_NotSound:Exc K (a "NotSound")
 r_Twice:mg "Twice"=some (.ref (a "Twice"))
 g_Twice:GV mg "Twice" (.ref (a "Twice"))
 x_Twice:Exc K (a "Twice")
 b_ValueError:mg "ValueError"=none
 b_bool:mg "bool"=none
 b_dict:mg "dict"=none
 b_enumerate:mg "enumerate"=none
 b_int:mg "int"=none
 b_isinstance:mg "isinstance"=none
 b_len:mg "len"=none
 b_list:mg "list"=none
 b_range:mg "range"=none
 b_set:mg "set"=none
 b_sorted:mg "sorted"=none
 b_tuple:mg "tuple"=none
def RdOk(sp:Sp)(rd:(St->XK)->TS)(N:List Str):Prop:=∀ (vs:List V) (H:Hp) (Q:VK) (E:XK),sp vs H Q E->rd (λ_=>E) { nx:=λ_ H'=>Q .non H',rt:=Q } (zbu N vs) H
def zcj(sp:Sp)(k:Nat):Prop:=∀ (vs:List V) (H:Hp) (Q:VK) (E:XK),sp vs H Q E->vs.length=k
section
variable{P:Program}{w:World}{K:PySem.W.Frag}{mg:Str->Option Value}{base:Heap}{a:Ad}{f:Addr}{fd:FuncData}
abbrev zdx:Stmt:=zbt (top 17) 0
theorem zse:zaq ["self","place","value","needs"] ["self","place","value","needs"] (zab zdx):=⟨rfl,rfl,rfl,by decide +kernel,rfl,by decide +kernel,by decide +kernel⟩
theorem zsf(T:Txt K mg a)(F:Fun K "__init__" "Change.__init__" zdx f fd)
  (R:RdOk (zcm K a) (zgm K a) ["self","place","value","needs"]) (L:zcj (zcm K a) 4) :
  FnOk P w K mg base (cxE P w) 1 f fd ["self","place","value","needs"] (zcm K a):=by
 refine F.okE zse L (λcdv A outer s H vs Q E hr h=> ?_)
 have hx:XOk (cxOf (cxE P w) P w K mg base ["self","place","value","needs"] "Change.__init__" (zab zdx) f cdv A outer s H E) (λ_=>E):=zba
 exact⟨zgm K a (λ_=>E),(zae (zg9 (pvr 0) (pvr 1) rfl)
   (zae (zg9 (pvr 0) (pvr 2) rfl)
   (zah (zg9 (pvr 0) (pvr 3) rfl)))),R vs H Q E h⟩
abbrev zcq:Stmt:=zbt (top 18) 4
theorem zrj:zaq ["self"] ["self"] (zab zcq):=⟨rfl,rfl,rfl,by decide +kernel,rfl,by decide +kernel,by decide +kernel⟩
theorem zrk(T:Txt K mg a)(F:Fun K "waiting" "Book.waiting" zcq f fd)
  (R:RdOk (zb9 K a) (zf5 K a) ["self"]) (L:zcj (zb9 K a) 1) :
  FnOk P w K mg base (cxE P w) 1 f fd ["self"] (zb9 K a):=by
 refine F.okE zrj L (λcdv A outer s H vs Q E hr h=> ?_)
 have hx:XOk (cxOf (cxE P w) P w K mg base ["self"] "Book.waiting" (zab zcq) f cdv A outer s H E) (λ_=>E):=zba
 exact⟨zf5 K a (λ_=>E),(zah (zax (zqn (tn:=["number"]) (cn:=["self"]) (cap:=[0]) (zlz (outer:=zab zcq) (N:=["self"]) rfl rfl (by decide +kernel)) rfl (zcr rfl T.b_range (zaa (zch zdk rfl T.b_len (by rfl) (zaa (za2 (pvr 0) rfl) zaf)) zaf)) (λ_ _ _ _ _ _=>(zb3 (i:=0) (show(["number","self"]:List Str).Nodup from by decide +kernel) rfl (Or.inl rfl))) (λ_ _ _ _ _ _=>(zaal (zst (zi9 (ze8 hr) (pvr 0) (za2 (pvr 1) rfl)) (by with_unfolding_all rfl)))) (λ_ _ _ _ _ _=>(pvr 0))))),R vs H Q E h⟩
abbrev za8:Stmt:=zbt (top 18) 10
theorem sc_Book_ask_for_changes:zaq ["self","numbers","number"] ["self","numbers"] (zab za8):=⟨rfl,rfl,rfl,by decide +kernel,rfl,by decide +kernel,by decide +kernel⟩
theorem zis(T:Txt K mg a)(F:Fun K "ask_for_changes" "Book.ask_for_changes" za8 f fd)
  (R:RdOk (zay K a) (zci K a) ["self","numbers","number"]) (L:zcj (zay K a) 2) :
  FnOk P w K mg base (cxE P w) 1 f fd ["self","numbers"] (zay K a):=by
 refine F.okE sc_Book_ask_for_changes L (λcdv A outer s H vs Q E hr h=> ?_)
 have hx:XOk (cxOf (cxE P w) P w K mg base ["self","numbers","number"] "Book.ask_for_changes" (zab za8) f cdv A outer s H E) (λ_=>E):=zba
 exact⟨zci K a (λ_=>E),(zah (zgx hx.po rfl (zop (pvr 1)) (zb3 (i:=2) sc_Book_ask_for_changes.nd rfl (Or.inl rfl)) (zah (ze2 (zqe (zp6 zyg zly zak (pvr 2) (zch zdk rfl T.b_len (by rfl) (zaa (za2 (pvr 0) rfl) zaf)))) (zah (zlw hx T.x_NoChange rfl T.r_NoChange (zaa zcy zaf))) zbj)))),R vs H Q E h⟩
abbrev zet:Stmt:=top 19
theorem zuh:zaq ["needs","ahead"] ["needs","ahead"] (zab zet):=⟨rfl,rfl,rfl,by decide +kernel,rfl,by decide +kernel,by decide +kernel⟩
theorem zui(T:Txt K mg a)(F:Fun K "needs_with" "needs_with" zet f fd)
  (R:RdOk (zc3 K a) (zf6 K a) ["needs","ahead"]) (L:zcj (zc3 K a) 2) :
  FnOk P w K mg base (cxE P w) 1 f fd ["needs","ahead"] (zc3 K a):=by
 refine F.okE zuh L (λcdv A outer s H vs Q E hr h=> ?_)
 have hx:XOk (cxOf (cxE P w) P w K mg base ["needs","ahead"] "needs_with" (zab zet) f cdv A outer s H E) (λ_=>E):=zba
 exact⟨zf6 K a (λ_=>E),(zae (ze2 (zby zx1 (pvr 1) zh3 (zcx _)) (zah (zax (zf0 zkj rfl T.b_tuple (by rfl) (zaa (zs9 rfl rfl T.b_sorted rfl T.b_set (pvr 0)) zaf)))) zbj)
   (zah (zax (zf0 zkj rfl T.b_tuple (by rfl) (zaa (zs9 rfl rfl T.b_sorted rfl T.b_set (za7 zcc (zf0 zjv rfl T.b_list (by rfl) (zaa (pvr 0) zaf)) (zit (zaa (pvr 1) zaf)))) zaf))))),R vs H Q E h⟩
abbrev zdc:Stmt:=zbt (top 21) 2
theorem sc_Hold_lack_of:zaq ["self","number","gone","need"] ["self","number","gone"] (zab zdc):=⟨rfl,rfl,rfl,by decide +kernel,rfl,by decide +kernel,by decide +kernel⟩
theorem zrl(T:Txt K mg a)(F:Fun K "lack_of" "Hold.lack_of" zdc f fd)
  (R:RdOk (zca K a) (zf7 K a) ["self","number","gone","need"]) (L:zcj (zca K a) 3) :
  FnOk P w K mg base (cxE P w) 1 f fd ["self","number","gone"] (zca K a):=by
 refine F.okE sc_Hold_lack_of L (λcdv A outer s H vs Q E hr h=> ?_)
 have hx:XOk (cxOf (cxE P w) P w K mg base ["self","number","gone","need"] "Hold.lack_of" (zab zdc) f cdv A outer s H E) (λ_=>E):=zba
 exact⟨zf7 K a (λ_=>E),(zae (zgx hx.po rfl (zop (za2 (zdb zbk (za2 (pvr 0) rfl) (pvr 1) (λ_ _=>rfl)) rfl)) (zb3 (i:=3) sc_Hold_lack_of.nd rfl (Or.inl rfl)) (zah (ze2 (PW.pt (zxy (zst (zi9 (ze8 hr) (pvr 3) (za2 (pvr 0) rfl)) (by with_unfolding_all rfl)) (zte (zst (zi9 (ze8 hr) (pvr 3) (pvr 2)) (by with_unfolding_all rfl))))) (zah (zax (pvr 3))) zbj)))
   (zah (zax zh3))),R vs H Q E h⟩
abbrev zcd:Stmt:=zbt (top 21) 3
theorem sc_Hold_laid_over:zaq ["self","values","block","laid","number"] ["self","values","block"] (zab zcd):=⟨rfl,rfl,rfl,by decide +kernel,rfl,by decide +kernel,by decide +kernel⟩
theorem zoi(T:Txt K mg a)(F:Fun K "laid_over" "Hold.laid_over" zcd f fd)
  (R:RdOk (zbs K a) (ze5 K a) ["self","values","block","laid","number"]) (L:zcj (zbs K a) 3) :
  FnOk P w K mg base (cxE P w) 1 f fd ["self","values","block"] (zbs K a):=by
 refine F.okE sc_Hold_laid_over L (λcdv A outer s H vs Q E hr h=> ?_)
 have hx:XOk (cxOf (cxE P w) P w K mg base ["self","values","block","laid","number"] "Hold.laid_over" (zab zcd) f cdv A outer s H E) (λ_=>E):=zba
 exact⟨ze5 K a (λ_=>E),(zae (zbq (i:=3) sc_Hold_laid_over.nd rfl (Or.inl rfl) (zf0 zjv rfl T.b_list (by rfl) (zaa (pvr 1) zaf)))
   (zae (zgx hx.po rfl (zop (zdb zbk (za2 (pvr 0) rfl) (pvr 2) (λ_ _=>rfl))) (zb3 (i:=4) sc_Hold_laid_over.nd rfl (Or.inl rfl)) (zah (ze2 (zst (zagt (ze8 hr) (pvr 4) (za2 (pvr 0) rfl)) (by with_unfolding_all rfl)) (zah (zuu (za2 (zdb zbk (za2 (pvr 0) rfl) (pvr 4) (λ_ _=>rfl)) rfl) (zx0 (pvr 3) (zdb zbk (za2 (zdb zbk (za2 (pvr 0) rfl) (pvr 4) (λ_ _=>rfl)) rfl) zak (λ_ _=>rfl)) ztq))) zbj)))
   (zah (zax (pvr 3))))),R vs H Q E h⟩
abbrev zdq:Stmt:=zbt (top 23) 0
theorem zuj:zaq ["self","blocks","cells"] ["self","blocks","cells"] (zab zdq):=⟨rfl,rfl,rfl,by decide +kernel,rfl,by decide +kernel,by decide +kernel⟩
theorem zuk(T:Txt K mg a)(F:Fun K "__init__" "Plank.__init__" zdq f fd)
  (R:RdOk (zc1 K a) (zg2 K a) ["self","blocks","cells"]) (L:zcj (zc1 K a) 3) :
  FnOk P w K mg base (cxE P w) 1 f fd ["self","blocks","cells"] (zc1 K a):=by
 refine F.okE zuj L (λcdv A outer s H vs Q E hr h=> ?_)
 have hx:XOk (cxOf (cxE P w) P w K mg base ["self","blocks","cells"] "Plank.__init__" (zab zdq) f cdv A outer s H E) (λ_=>E):=zba
 exact⟨zg2 K a (λ_=>E),(zae (zg9 (pvr 0) (zqn (tn:=["block"]) (cn:=["cells"]) (cap:=[2]) (zlz (outer:=zab zdq) (N:=["self","blocks","cells"]) rfl rfl (by decide +kernel)) rfl (zcr rfl T.b_range (zaa (pvr 1) zaf)) (λ_ _ _ _ _ _=>(zb3 (i:=0) (show(["block","cells"]:List Str).Nodup from by decide +kernel) rfl (Or.inl rfl))) (λ_ _ _ _ _ _=>zki) (λ_ _ _ _ _ _=>(za7 zha (zgy (zaa zh3 zaf)) (pvr 1)))) rfl)
   (zae (zg9 (pvr 0) (pvr 2) rfl)
   (zah (zg9 (pvr 0) zak rfl)))),R vs H Q E h⟩
abbrev zdd:Stmt:=zbt (top 23) 1
theorem zrm:zaq ["self"] ["self"] (zab zdd):=⟨rfl,rfl,rfl,by decide +kernel,rfl,by decide +kernel,by decide +kernel⟩
theorem zrn(T:Txt K mg a)(F:Fun K "blocks" "Plank.blocks" zdd f fd)
  (R:RdOk (za3 K a) (zf8 K a) ["self"]) (L:zcj (za3 K a) 1) :
  FnOk P w K mg base (cxE P w) 1 f fd ["self"] (za3 K a):=by
 refine F.okE zrm L (λcdv A outer s H vs Q E hr h=> ?_)
 have hx:XOk (cxOf (cxE P w) P w K mg base ["self"] "Plank.blocks" (zab zdd) f cdv A outer s H E) (λ_=>E):=zba
 exact⟨zf8 K a (λ_=>E),(zah (zax (zch zdk rfl T.b_len (by rfl) (zaa (za2 (pvr 0) rfl) zaf)))),R vs H Q E h⟩
abbrev zdy:Stmt:=zbt (top 23) 2
theorem zsg:zaq ["self"] ["self"] (zab zdy):=⟨rfl,rfl,rfl,by decide +kernel,rfl,by decide +kernel,by decide +kernel⟩
theorem zsh(T:Txt K mg a)(F:Fun K "cells" "Plank.cells" zdy f fd)
  (R:RdOk (zbv K a) (zgn K a) ["self"]) (L:zcj (zbv K a) 1) :
  FnOk P w K mg base (cxE P w) 1 f fd ["self"] (zbv K a):=by
 refine F.okE zsg L (λcdv A outer s H vs Q E hr h=> ?_)
 have hx:XOk (cxOf (cxE P w) P w K mg base ["self"] "Plank.cells" (zab zdy) f cdv A outer s H E) (λ_=>E):=zba
 exact⟨zgn K a (λ_=>E),(zah (zax (za2 (pvr 0) rfl))),R vs H Q E h⟩
abbrev zce:Stmt:=zbt (top 23) 3
theorem zoj:zaq ["self"] ["self"] (zab zce):=⟨rfl,rfl,rfl,by decide +kernel,rfl,by decide +kernel,by decide +kernel⟩
theorem zok(T:Txt K mg a)(F:Fun K "writings" "Plank.writings" zce f fd)
  (R:RdOk (zbr K a) (ze6 K a) ["self"]) (L:zcj (zbr K a) 1) :
  FnOk P w K mg base (cxE P w) 1 f fd ["self"] (zbr K a):=by
 refine F.okE zoj L (λcdv A outer s H vs Q E hr h=> ?_)
 have hx:XOk (cxOf (cxE P w) P w K mg base ["self"] "Plank.writings" (zab zce) f cdv A outer s H E) (λ_=>E):=zba
 exact⟨ze6 K a (λ_=>E),(zah (zax (za2 (pvr 0) rfl))),R vs H Q E h⟩
abbrev zbc:Stmt:=zbt (top 23) 6
theorem zi5:zaq ["self","block"] ["self","block"] (zab zbc):=⟨rfl,rfl,rfl,by decide +kernel,rfl,by decide +kernel,by decide +kernel⟩
theorem zi6(T:Txt K mg a)(F:Fun K "ask_for_block" "Plank.ask_for_block" zbc f fd)
  (R:RdOk (zao K a) (zcw K a) ["self","block"]) (L:zcj (zao K a) 2) :
  FnOk P w K mg base (cxE P w) 1 f fd ["self","block"] (zao K a):=by
 refine F.okE zi5 L (λcdv A outer s H vs Q E hr h=> ?_)
 have hx:XOk (cxOf (cxE P w) P w K mg base ["self","block"] "Plank.ask_for_block" (zab zbc) f cdv A outer s H E) (λ_=>E):=zba
 exact⟨zcw K a (λ_=>E),(zah (ze2 (zqe (zp6 zyg zly zak (pvr 1) (zch zdk rfl T.b_len (by rfl) (zaa (za2 (pvr 0) rfl) zaf)))) (zah (zlw hx T.x_NoBlock rfl T.r_NoBlock (zaa zcy zaf))) zbj)),R vs H Q E h⟩
abbrev zdz:Stmt:=zbt (top 25) 0
theorem zsi:zaq ["self","names","records","pieces","cells"] ["self","names","records","pieces","cells"] (zab zdz):=⟨rfl,rfl,rfl,by decide +kernel,rfl,by decide +kernel,by decide +kernel⟩
theorem zsj(T:Txt K mg a)(F:Fun K "__init__" "Layout.__init__" zdz f fd)
  (R:RdOk (zck K a) (zgo K a) ["self","names","records","pieces","cells"]) (L:zcj (zck K a) 5) :
  FnOk P w K mg base (cxE P w) 1 f fd ["self","names","records","pieces","cells"] (zck K a):=by
 refine F.okE zsi L (λcdv A outer s H vs Q E hr h=> ?_)
 have hx:XOk (cxOf (cxE P w) P w K mg base ["self","names","records","pieces","cells"] "Layout.__init__" (zab zdz) f cdv A outer s H E) (λ_=>E):=zba
 exact⟨zgo K a (λ_=>E),(zae (zg9 (pvr 0) (pvr 1) rfl)
   (zae (zg9 (pvr 0) (pvr 2) rfl)
   (zae (zg9 (pvr 0) (pvr 3) rfl)
   (zah (zg9 (pvr 0) (pvr 4) rfl))))),R vs H Q E h⟩
abbrev zct:Stmt:=zbt (top 25) 6
theorem zpz:zaq ["self"] ["self"] (zab zct):=⟨rfl,rfl,rfl,by decide +kernel,rfl,by decide +kernel,by decide +kernel⟩
theorem zp0(T:Txt K mg a)(F:Fun K "counts" "Layout.counts" zct f fd)
  (R:RdOk (zan K a) (zfo K a) ["self"]) (L:zcj (zan K a) 1) :
  FnOk P w K mg base (cxE P w) 1 f fd ["self"] (zan K a):=by
 refine F.okE zpz L (λcdv A outer s H vs Q E hr h=> ?_)
 have hx:XOk (cxOf (cxE P w) P w K mg base ["self"] "Layout.counts" (zab zct) f cdv A outer s H E) (λ_=>E):=zba
 exact⟨zfo K a (λ_=>E),(zah (zax (zgy (zaa (za7 zha (za2 (pvr 0) rfl) (za2 (pvr 0) rfl)) (zaa (za7 zha (za2 (pvr 0) rfl) (za2 (pvr 0) rfl)) (zaa (za7 zha (za2 (pvr 0) rfl) (za2 (pvr 0) rfl)) zaf)))))),R vs H Q E h⟩
abbrev zas:Stmt:=zbt (top 25) 9
theorem zgh:zaq ["self"] ["self"] (zab zas):=⟨rfl,rfl,rfl,by decide +kernel,rfl,by decide +kernel,by decide +kernel⟩
theorem zgi(T:Txt K mg a)(F:Fun K "blocks_ahead_of_marks" "Layout.blocks_ahead_of_marks" zas f fd)
  (R:RdOk (zal K a) (zbd K a) ["self"]) (L:zcj (zal K a) 1) :
  FnOk P w K mg base (cxE P w) 1 f fd ["self"] (zal K a):=by
 refine F.okE zgh L (λcdv A outer s H vs Q E hr h=> ?_)
 have hx:XOk (cxOf (cxE P w) P w K mg base ["self"] "Layout.blocks_ahead_of_marks" (zab zas) f cdv A outer s H E) (λ_=>E):=zba
 exact⟨zbd K a (λ_=>E),(zah (zax (za7 zcc (za7 zcc (za2 (pvr 0) rfl) (za2 (pvr 0) rfl)) (za2 (pvr 0) rfl)))),R vs H Q E h⟩
abbrev zbo:Stmt:=zbt (top 25) 10
theorem zkb:zaq ["self","block","k"] ["self","block","k"] (zab zbo):=⟨rfl,rfl,rfl,by decide +kernel,rfl,by decide +kernel,by decide +kernel⟩
theorem zkc(T:Txt K mg a)(F:Fun K "place_from" "Layout.place_from" zbo f fd)
  (R:RdOk (zam K a) (zdi K a) ["self","block","k"]) (L:zcj (zam K a) 3) :
  FnOk P w K mg base (cxE P w) 1 f fd ["self","block","k"] (zam K a):=by
 refine F.okE zkb L (λcdv A outer s H vs Q E hr h=> ?_)
 have hx:XOk (cxOf (cxE P w) P w K mg base ["self","block","k"] "Layout.place_from" (zab zbo) f cdv A outer s H E) (λ_=>E):=zba
 exact⟨zdi K a (λ_=>E),(zah (zax (zgy (zaa (za7 zcc (pvr 1) (za7 zg8 (pvr 2) (za2 (pvr 0) rfl))) (zaa (za7 zdh (pvr 2) (za2 (pvr 0) rfl)) zaf))))),R vs H Q E h⟩
abbrev zd0:Stmt:=top 27
theorem zsk:zaq ["script","k"] ["script","k"] (zab zd0):=⟨rfl,rfl,rfl,by decide +kernel,rfl,by decide +kernel,by decide +kernel⟩
theorem zsl(T:Txt K mg a)(F:Fun K "_law_cell_at" "_law_cell_at" zd0 f fd)
  (R:RdOk (za5 K a) (zgp K a) ["script","k"]) (L:zcj (za5 K a) 2) :
  FnOk P w K mg base (cxE P w) 1 f fd ["script","k"] (za5 K a):=by
 refine F.okE zsk L (λcdv A outer s H vs Q E hr h=> ?_)
 have hx:XOk (cxOf (cxE P w) P w K mg base ["script","k"] "_law_cell_at" (zab zd0) f cdv A outer s H E) (λ_=>E):=zba
 exact⟨zgp K a (λ_=>E),(zae (ze2 (zby zly (pvr 1) (zch zdk rfl T.b_len (by rfl) (zaa (pvr 0) zaf)) (zcx _)) (zah (zax (zdb zbk (pvr 0) (pvr 1) (λ_ _=>rfl)))) zbj)
   (zah (zax zak))),R vs H Q E h⟩
abbrev zgj:Stmt:=top 28
theorem sc_law_mill:zaq ["cell","turn","seed"] ["cell","turn"] (zab zgj):=⟨rfl,rfl,rfl,by decide +kernel,rfl,by decide +kernel,by decide +kernel⟩
theorem zxv(T:Txt K mg a)(F:Fun K "_law_mill" "_law_mill" zgj f fd)
  (R:RdOk (zat K a) (zii K a) ["cell","turn","seed"]) (L:zcj (zat K a) 2) :
  FnOk P w K mg base (cxE P w) 1 f fd ["cell","turn"] (zat K a):=by
 refine F.okE sc_law_mill L (λcdv A outer s H vs Q E hr h=> ?_)
 have hx:XOk (cxOf (cxE P w) P w K mg base ["cell","turn","seed"] "_law_mill" (zab zgj) f cdv A outer s H E) (λ_=>E):=zba
 exact⟨zii K a (λ_=>E),(zae (zbq (i:=2) sc_law_mill.nd rfl (Or.inl rfl) (za7 zcc (za7 zcc (za7 zdh (pvr 0) zak) (za7 zha zak (pvr 1))) zak))
   (zah (zax (za7 zg8 (za7 zdh (za7 zha (za7 zdh (za7 zha (pvr 2) (pvr 2)) zak) (za7 zcc (pvr 2) (pvr 1))) zak) zak)))),R vs H Q E h⟩
abbrev zfs:Stmt:=top 31
theorem zwb:zaq ["kind","number"] ["kind","number"] (zab zfs):=⟨rfl,rfl,rfl,by decide +kernel,rfl,by decide +kernel,by decide +kernel⟩
theorem zwc(T:Txt K mg a)(F:Fun K "_law_freed" "_law_freed" zfs f fd)
  (R:RdOk (zdm K a) (zhp K a) ["kind","number"]) (L:zcj (zdm K a) 2) :
  FnOk P w K mg base (cxE P w) 1 f fd ["kind","number"] (zdm K a):=by
 refine F.okE zwb L (λcdv A outer s H vs Q E hr h=> ?_)
 have hx:XOk (cxOf (cxE P w) P w K mg base ["kind","number"] "_law_freed" (zab zfs) f cdv A outer s H E) (λ_=>E):=zba
 exact⟨zhp K a (λ_=>E),(zae (ze2 (zby (zadq hr.units) (pvr 0) (zgy (zaa zak (zaa zak zaf))) (by with_unfolding_all rfl)) (zah (zax (zdb zbk (zit (zaa zak (zaa zh3 zaf))) (za7 zdh (pvr 1) zak) (λ_ _=>rfl)))) zbj)
   (zah (zax zh3))),R vs H Q E h⟩
abbrev zeu:Stmt:=zbt (top 18) 0
theorem zwd:zaq ["self","plank"] ["self","plank"] (zab zeu):=⟨rfl,rfl,rfl,by decide +kernel,rfl,by decide +kernel,by decide +kernel⟩
theorem zwe(T:Txt K mg a)(F:Fun K "__init__" "Book.__init__" zeu f fd)(m_Plank_blocks:MCal P w K mg base (a "Plank") 1 "blocks" ["self"] (za3 K a))
  (R:RdOk (zc2 K a) (zhq K a) ["self","plank"]) (L:zcj (zc2 K a) 2) :
  FnOk P w K mg base (cxE P w) 2 f fd ["self","plank"] (zc2 K a):=by
 refine F.okE zwd L (λcdv A outer s H vs Q E hr h=> ?_)
 have hx:XOk (cxOf (cxE P w) P w K mg base ["self","plank"] "Book.__init__" (zab zeu) f cdv A outer s H E) (λ_=>E):=zba
 exact⟨zhq K a (λ_=>E),(zae (zg9 (pvr 0) (pvr 1) rfl)
   (zae (zg9 (pvr 0) (zit zaf) rfl)
   (zae (zg9 (pvr 0) (zqn (tn:=["block"]) (cn:=[]) (cap:=[]) (zlz (outer:=zab zeu) (N:=["self","plank"]) rfl rfl (by decide +kernel)) rfl (zcr rfl T.b_range (zaa (zbz (pvr 1) T.c_Plank m_Plank_blocks (hr.mono (by decide)) hx.passes) zaf)) (λ_ _ _ _ _ _=>(zb3 (i:=0) (show(["block"]:List Str).Nodup from by decide +kernel) rfl (Or.inl rfl))) (λ_ _ _ _ _ _=>zki) (λ_ _ _ _ _ _=>(zit zaf))) rfl)
   (zae (zg9 (pvr 0) zya rfl)
   (zah (zg9 (pvr 0) zx9 rfl)))))),R vs H Q E h⟩
abbrev zbg:Stmt:=zbt (top 18) 9
theorem zjp:zaq ["self","place"] ["self","place"] (zab zbg):=⟨rfl,rfl,rfl,by decide +kernel,rfl,by decide +kernel,by decide +kernel⟩
theorem zjq(T:Txt K mg a)(F:Fun K "ask_for_place" "Book.ask_for_place" zbg f fd)(m_Plank_cells:MCal P w K mg base (a "Plank") 1 "cells" ["self"] (zbv K a))(m_Plank_blocks:MCal P w K mg base (a "Plank") 1 "blocks" ["self"] (za3 K a))
  (R:RdOk (za0 K a) (zc8 K a) ["self","place"]) (L:zcj (za0 K a) 2) :
  FnOk P w K mg base (cxE P w) 2 f fd ["self","place"] (za0 K a):=by
 refine F.okE zjp L (λcdv A outer s H vs Q E hr h=> ?_)
 have hx:XOk (cxOf (cxE P w) P w K mg base ["self","place"] "Book.ask_for_place" (zab zbg) f cdv A outer s H E) (λ_=>E):=zba
 exact⟨zc8 K a (λ_=>E),(zah (ze2 (PW.pt (zaf9 (zqe (zp6 zyg zly zak (zdb zbk (pvr 1) zak (λ_ _=>rfl)) (zbz (za2 (pvr 0) rfl) T.c_Plank m_Plank_blocks (hr.mono (by decide)) hx.passes))) (zadf (zqe (zp6 zyg zly zak (zdb zbk (pvr 1) zak (λ_ _=>rfl)) (zbz (za2 (pvr 0) rfl) T.c_Plank m_Plank_cells (hr.mono (by decide)) hx.passes)))))) (zah (zlw hx T.x_NoBlock rfl T.r_NoBlock (zaa zcy zaf))) zbj)),R vs H Q E h⟩
abbrev zde:Stmt:=zbt (top 21) 1
theorem sc_Hold_outcome:zaq ["self","block","taken","gone","out","held","number","lack"] ["self","block","taken"] (zab zde):=⟨rfl,rfl,rfl,by decide +kernel,rfl,by decide +kernel,by decide +kernel⟩
theorem zro(T:Txt K mg a)(F:Fun K "outcome" "Hold.outcome" zde f fd)(m_Hold_lack_of:MCal P w K mg base (a "Hold") 1 "lack_of" ["self","number","gone"] (zca K a))
  (R:RdOk (zcb K a) (zf9 K a) ["self","block","taken","gone","out","held","number","lack"]) (L:zcj (zcb K a) 3) :
  FnOk P w K mg base (cxE P w) 2 f fd ["self","block","taken"] (zcb K a):=by
 refine F.okE sc_Hold_outcome L (λcdv A outer s H vs Q E hr h=> ?_)
 have hx:XOk (cxOf (cxE P w) P w K mg base ["self","block","taken","gone","out","held","number","lack"] "Hold.outcome" (zab zde) f cdv A outer s H E) (λ_=>E):=zba
 exact⟨zf9 K a (λ_=>E),(zae (zbq (i:=3) sc_Hold_outcome.nd rfl (Or.inl rfl) (zf0 zzg rfl T.b_dict (by rfl) (zaa (pvr 2) zaf)))
   (zae (zbq (i:=4) sc_Hold_outcome.nd rfl (Or.inl rfl) (zit zaf))
   (zae (zbq (i:=5) sc_Hold_outcome.nd rfl (Or.inl rfl) (zit zaf))
   (zae (zgx hx.po rfl (zop (zdb zbk (za2 (pvr 0) rfl) (pvr 1) (λ_ _=>rfl))) (zb3 (i:=6) sc_Hold_outcome.nd rfl (Or.inl rfl)) (zah (ze2 (PW.pt (zxy (zst (zi9 (ze8 hr) (pvr 6) (za2 (pvr 0) rfl)) (by with_unfolding_all rfl)) (zte (zst (zi9 (ze8 hr) (pvr 6) (pvr 3)) (by with_unfolding_all rfl))))) (zae (zbq (i:=7) sc_Hold_outcome.nd rfl (Or.inl rfl) (za1 (pvr 0) T.c_Hold m_Hold_lack_of (hr.mono (by decide)) hx.passes (zaa (pvr 6) (zaa (pvr 3) zaf))))
   (zah (ze2 (zby zx1 (pvr 7) zh3 (zcx _)) (zae (zkh (ze8 hr) (pvr 3) (pvr 6) zrt rfl)
   (zah (zfr (zaab PySem.F.plainAttrs_list PySem.F.slot_list_append PySem.F.type_list_append zi8 (pvr 4) (zaa (pvr 6) zaf))))) (zah (zfr (zaab PySem.F.plainAttrs_list PySem.F.slot_list_append PySem.F.type_list_append zi8 (pvr 5) (zaa (zgy (zaa (pvr 6) (zaa (pvr 7) zaf))) zaf))))))) zbj)))
   (zah (zax (zgy (zaa (pvr 4) (zaa (pvr 5) zaf))))))))),R vs H Q E h⟩
abbrev zev:Stmt:=zbt (top 23) 4
theorem zul:zaq ["self","block"] ["self","block"] (zab zev):=⟨rfl,rfl,rfl,by decide +kernel,rfl,by decide +kernel,by decide +kernel⟩
theorem zum(T:Txt K mg a)(F:Fun K "read" "Plank.read" zev f fd)(m_Plank_ask_for_block:MCal P w K mg base (a "Plank") 1 "ask_for_block" ["self","block"] (zao K a))
  (R:RdOk (zbm K a) (zg3 K a) ["self","block"]) (L:zcj (zbm K a) 2) :
  FnOk P w K mg base (cxE P w) 2 f fd ["self","block"] (zbm K a):=by
 refine F.okE zul L (λcdv A outer s H vs Q E hr h=> ?_)
 have hx:XOk (cxOf (cxE P w) P w K mg base ["self","block"] "Plank.read" (zab zev) f cdv A outer s H E) (λ_=>E):=zba
 exact⟨zg3 K a (λ_=>E),(zae (zfr (za1 (pvr 0) T.c_Plank m_Plank_ask_for_block (hr.mono (by decide)) hx.passes (zaa (pvr 1) zaf)))
   (zah (zax (zf0 zjv rfl T.b_list (by rfl) (zaa (zdb zbk (za2 (pvr 0) rfl) (pvr 1) (λ_ _=>rfl)) zaf))))),R vs H Q E h⟩
abbrev zd1:Stmt:=zbt (top 23) 5
theorem zsm:zaq ["self","block","values"] ["self","block","values"] (zab zd1):=⟨rfl,rfl,rfl,by decide +kernel,rfl,by decide +kernel,by decide +kernel⟩
theorem zsn(T:Txt K mg a)(F:Fun K "write" "Plank.write" zd1 f fd)(m_Plank_ask_for_block:MCal P w K mg base (a "Plank") 1 "ask_for_block" ["self","block"] (zao K a))
  (R:RdOk (zbw K a) (zgq K a) ["self","block","values"]) (L:zcj (zbw K a) 3) :
  FnOk P w K mg base (cxE P w) 2 f fd ["self","block","values"] (zbw K a):=by
 refine F.okE zsm L (λcdv A outer s H vs Q E hr h=> ?_)
 have hx:XOk (cxOf (cxE P w) P w K mg base ["self","block","values"] "Plank.write" (zab zd1) f cdv A outer s H E) (λ_=>E):=zba
 exact⟨zgq K a (λ_=>E),(zae (zfr (za1 (pvr 0) T.c_Plank m_Plank_ask_for_block (hr.mono (by decide)) hx.passes (zaa (pvr 1) zaf)))
   (zae (ze2 (zby (zyf hr.units) (zch zdk rfl T.b_len (by rfl) (zaa (pvr 2) zaf)) (za2 (pvr 0) rfl) (zcx _)) (zah (zlw hx T.x_NoBlock rfl T.r_NoBlock (zaa zcy zaf))) zbj)
   (zae (zuu (zf0 zkj rfl T.b_tuple (by rfl) (zaa (pvr 2) zaf)) (zx0 (za2 (pvr 0) rfl) (pvr 1) ztq))
   (zah (zz3 (pvr 0) zak zagf))))),R vs H Q E h⟩
abbrev zcf:Stmt:=zbt (top 25) 1
theorem zol:zaq ["self","k"] ["self","k"] (zab zcf):=⟨rfl,rfl,rfl,by decide +kernel,rfl,by decide +kernel,by decide +kernel⟩
theorem zom(T:Txt K mg a)(F:Fun K "name_at" "Layout.name_at" zcf f fd)(m_Layout_place_from:MCal P w K mg base (a "Layout") 1 "place_from" ["self","block","k"] (zam K a))
  (R:RdOk (za4 K a) (ze7 K a) ["self","k"]) (L:zcj (za4 K a) 2) :
  FnOk P w K mg base (cxE P w) 2 f fd ["self","k"] (za4 K a):=by
 refine F.okE zol L (λcdv A outer s H vs Q E hr h=> ?_)
 have hx:XOk (cxOf (cxE P w) P w K mg base ["self","k"] "Layout.name_at" (zab zcf) f cdv A outer s H E) (λ_=>E):=zba
 exact⟨ze7 K a (λ_=>E),(zah (zax (za1 (pvr 0) T.c_Layout m_Layout_place_from (hr.mono (by decide)) hx.passes (zaa zak (zaa (pvr 1) zaf))))),R vs H Q E h⟩
abbrev zb0:Stmt:=zbt (top 25) 2
theorem zlr:zaq ["self","k"] ["self","k"] (zab zb0):=⟨rfl,rfl,rfl,by decide +kernel,rfl,by decide +kernel,by decide +kernel⟩
theorem zls(T:Txt K mg a)(F:Fun K "record_at" "Layout.record_at" zb0 f fd)(m_Layout_place_from:MCal P w K mg base (a "Layout") 1 "place_from" ["self","block","k"] (zam K a))
  (R:RdOk (zbb K a) (zdw K a) ["self","k"]) (L:zcj (zbb K a) 2) :
  FnOk P w K mg base (cxE P w) 2 f fd ["self","k"] (zbb K a):=by
 refine F.okE zlr L (λcdv A outer s H vs Q E hr h=> ?_)
 have hx:XOk (cxOf (cxE P w) P w K mg base ["self","k"] "Layout.record_at" (zab zb0) f cdv A outer s H E) (λ_=>E):=zba
 exact⟨zdw K a (λ_=>E),(zah (zax (za1 (pvr 0) T.c_Layout m_Layout_place_from (hr.mono (by decide)) hx.passes (zaa (za2 (pvr 0) rfl) (zaa (pvr 1) zaf))))),R vs H Q E h⟩
abbrev zb6:Stmt:=zbt (top 25) 3
theorem zmy:zaq ["self","k"] ["self","k"] (zab zb6):=⟨rfl,rfl,rfl,by decide +kernel,rfl,by decide +kernel,by decide +kernel⟩
theorem zmz(T:Txt K mg a)(F:Fun K "piece_at" "Layout.piece_at" zb6 f fd)(m_Layout_place_from:MCal P w K mg base (a "Layout") 1 "place_from" ["self","block","k"] (zam K a))
  (R:RdOk (zbi K a) (zeg K a) ["self","k"]) (L:zcj (zbi K a) 2) :
  FnOk P w K mg base (cxE P w) 2 f fd ["self","k"] (zbi K a):=by
 refine F.okE zmy L (λcdv A outer s H vs Q E hr h=> ?_)
 have hx:XOk (cxOf (cxE P w) P w K mg base ["self","k"] "Layout.piece_at" (zab zb6) f cdv A outer s H E) (λ_=>E):=zba
 exact⟨zeg K a (λ_=>E),(zah (zax (za1 (pvr 0) T.c_Layout m_Layout_place_from (hr.mono (by decide)) hx.passes (zaa (za7 zcc (za2 (pvr 0) rfl) (za2 (pvr 0) rfl)) (zaa (pvr 1) zaf))))),R vs H Q E h⟩
abbrev zbh:Stmt:=zbt (top 25) 4
theorem zjr:zaq ["self","k"] ["self","k"] (zab zbh):=⟨rfl,rfl,rfl,by decide +kernel,rfl,by decide +kernel,by decide +kernel⟩
theorem zjs(T:Txt K mg a)(F:Fun K "record_mark" "Layout.record_mark" zbh f fd)(m_Layout_place_from:MCal P w K mg base (a "Layout") 1 "place_from" ["self","block","k"] (zam K a))(m_Layout_blocks_ahead_of_marks:MCal P w K mg base (a "Layout") 1 "blocks_ahead_of_marks" ["self"] (zal K a))
  (R:RdOk (zau K a) (zc9 K a) ["self","k"]) (L:zcj (zau K a) 2) :
  FnOk P w K mg base (cxE P w) 2 f fd ["self","k"] (zau K a):=by
 refine F.okE zjr L (λcdv A outer s H vs Q E hr h=> ?_)
 have hx:XOk (cxOf (cxE P w) P w K mg base ["self","k"] "Layout.record_mark" (zab zbh) f cdv A outer s H E) (λ_=>E):=zba
 exact⟨zc9 K a (λ_=>E),(zah (zax (za1 (pvr 0) T.c_Layout m_Layout_place_from (hr.mono (by decide)) hx.passes (zaa (zbz (pvr 0) T.c_Layout m_Layout_blocks_ahead_of_marks (hr.mono (by decide)) hx.passes) (zaa (pvr 1) zaf))))),R vs H Q E h⟩
abbrev zbp:Stmt:=zbt (top 25) 5
theorem zkd:zaq ["self","k"] ["self","k"] (zab zbp):=⟨rfl,rfl,rfl,by decide +kernel,rfl,by decide +kernel,by decide +kernel⟩
theorem zke(T:Txt K mg a)(F:Fun K "piece_mark" "Layout.piece_mark" zbp f fd)(m_Layout_place_from:MCal P w K mg base (a "Layout") 1 "place_from" ["self","block","k"] (zam K a))(m_Layout_blocks_ahead_of_marks:MCal P w K mg base (a "Layout") 1 "blocks_ahead_of_marks" ["self"] (zal K a))
  (R:RdOk (zaw K a) (zdj K a) ["self","k"]) (L:zcj (zaw K a) 2) :
  FnOk P w K mg base (cxE P w) 2 f fd ["self","k"] (zaw K a):=by
 refine F.okE zkd L (λcdv A outer s H vs Q E hr h=> ?_)
 have hx:XOk (cxOf (cxE P w) P w K mg base ["self","k"] "Layout.piece_mark" (zab zbp) f cdv A outer s H E) (λ_=>E):=zba
 exact⟨zdj K a (λ_=>E),(zah (zax (za1 (pvr 0) T.c_Layout m_Layout_place_from (hr.mono (by decide)) hx.passes (zaa (za7 zcc (zbz (pvr 0) T.c_Layout m_Layout_blocks_ahead_of_marks (hr.mono (by decide)) hx.passes) (za2 (pvr 0) rfl)) (zaa (pvr 1) zaf))))),R vs H Q E h⟩
abbrev zcu:Stmt:=zbt (top 25) 7
theorem zp1:zaq ["self"] ["self"] (zab zcu):=⟨rfl,rfl,rfl,by decide +kernel,rfl,by decide +kernel,by decide +kernel⟩
theorem zp2(T:Txt K mg a)(F:Fun K "blocks" "Layout.blocks" zcu f fd)(m_Layout_blocks_ahead_of_marks:MCal P w K mg base (a "Layout") 1 "blocks_ahead_of_marks" ["self"] (zal K a))
  (R:RdOk (zb1 K a) (zfp K a) ["self"]) (L:zcj (zb1 K a) 1) :
  FnOk P w K mg base (cxE P w) 2 f fd ["self"] (zb1 K a):=by
 refine F.okE zp1 L (λcdv A outer s H vs Q E hr h=> ?_)
 have hx:XOk (cxOf (cxE P w) P w K mg base ["self"] "Layout.blocks" (zab zcu) f cdv A outer s H E) (λ_=>E):=zba
 exact⟨zfp K a (λ_=>E),(zah (zax (za7 zcc (za7 zcc (zbz (pvr 0) T.c_Layout m_Layout_blocks_ahead_of_marks (hr.mono (by decide)) hx.passes) (za2 (pvr 0) rfl)) (za2 (pvr 0) rfl)))),R vs H Q E h⟩
abbrev zft:Stmt:=top 30
theorem sc_law_taken:zaq ["layout","kind","number","counts"] ["layout","kind","number"] (zab zft):=⟨rfl,rfl,rfl,by decide +kernel,rfl,by decide +kernel,by decide +kernel⟩
theorem zwf(T:Txt K mg a)(F:Fun K "_law_taken" "_law_taken" zft f fd)(m_Layout_counts:MCal P w K mg base (a "Layout") 1 "counts" ["self"] (zan K a))
  (R:RdOk (zco K a) (zhr K a) ["layout","kind","number","counts"]) (L:zcj (zco K a) 3) :
  FnOk P w K mg base (cxE P w) 2 f fd ["layout","kind","number"] (zco K a):=by
 refine F.okE sc_law_taken L (λcdv A outer s H vs Q E hr h=> ?_)
 have hx:XOk (cxOf (cxE P w) P w K mg base ["layout","kind","number","counts"] "_law_taken" (zab zft) f cdv A outer s H E) (λ_=>E):=zba
 exact⟨zhr K a (λ_=>E),(zae (zbq (i:=3) sc_law_taken.nd rfl (Or.inl rfl) (zbz (pvr 0) T.c_Layout m_Layout_counts (hr.mono (by decide)) hx.passes))
   (zae (ze2 (zby (zgz hr.units) (pvr 1) zak (zcx _)) (zah (zax (zgy (zaa (za7 zha (zdb zbk zcy (za7 zdh (pvr 2) zak) (λ_ _=>rfl)) (za7 zcc zak (za7 zdh (za7 zg8 (pvr 2) zak) zak))) (zaa (za7 zdh (za7 zg8 (pvr 2) zak) (zdb zbk (pvr 3) zak (λ_ _=>rfl))) zaf))))) zbj)
   (zae (ze2 (zby zly (pvr 1) zak (zcx _)) (zah (zax zak)) zbj)
   (zae (ze2 (zby (zgz hr.units) (pvr 1) zak (zcx _)) (zah (zax (zgy (zaa (za7 zcc zak (za7 zdh (pvr 2) zak)) (zaa (zgy (zaa (za7 zdh (za7 zg8 (pvr 2) zak) (zdb zbk (pvr 3) zak (λ_ _=>rfl))) zaf)) zaf))))) zbj)
   (zah (zax (zx3 zadl zcy zz7 (zz8 (za7 zcc zak (za7 zdh (pvr 2) zak)))))))))),R vs H Q E h⟩
abbrev zd2:Stmt:=zbt (top 18) 3
theorem zso:zaq ["self","place"] ["self","place"] (zab zd2):=⟨rfl,rfl,rfl,by decide +kernel,rfl,by decide +kernel,by decide +kernel⟩
theorem zsp(T:Txt K mg a)(F:Fun K "newest" "Book.newest" zd2 f fd)(m_Hold_ask_for_place:MCal P w K mg base (a "Hold") 2 "ask_for_place" ["self","place"] (za0 K a))
  (R:RdOk (zbx K a) (zgr K a) ["self","place"]) (L:zcj (zbx K a) 2) :
  FnOk P w K mg base (cxE P w) 3 f fd ["self","place"] (zbx K a):=by
 refine F.okE zso L (λcdv A outer s H vs Q E hr h=> ?_)
 have hx:XOk (cxOf (cxE P w) P w K mg base ["self","place"] "Book.newest" (zab zd2) f cdv A outer s H E) (λ_=>E):=zba
 exact⟨zgr K a (λ_=>E),(zae (zfr (za1 (pvr 0) T.c_Hold m_Hold_ask_for_place (hr.mono (by decide)) hx.passes (zaa (pvr 1) zaf)))
   (zah (zax (zab5 (ze8 hr) (za2 (pvr 0) rfl) (pvr 1) ⟨rfl,rfl,rfl,rfl⟩)))),R vs H Q E h⟩
abbrev zew:Stmt:=zbt (top 21) 0
theorem sc_Hold_write:zaq ["self","block","values","told","number"] ["self","block"] (zab zew):=⟨rfl,rfl,rfl,by decide +kernel,rfl,by decide +kernel,by decide +kernel⟩
theorem zun(T:Txt K mg a)(F:Fun K "write" "Hold.write" zew f fd)(m_Plank_read:MCal P w K mg base (a "Plank") 2 "read" ["self","block"] (zbm K a))(m_Hold_outcome:MCal P w K mg base (a "Hold") 2 "outcome" ["self","block","taken"] (zcb K a))(m_Plank_write:MCal P w K mg base (a "Plank") 2 "write" ["self","block","values"] (zbw K a))(m_Hold_laid_over:MCal P w K mg base (a "Hold") 1 "laid_over" ["self","values","block"] (zbs K a))
  (R:RdOk (zc4 K a) (zg4 K a) ["self","block","values","told","number"]) (L:zcj (zc4 K a) 2) :
  FnOk P w K mg base (cxE P w) 3 f fd ["self","block"] (zc4 K a):=by
 refine F.okE sc_Hold_write L (λcdv A outer s H vs Q E hr h=> ?_)
 have hx:XOk (cxOf (cxE P w) P w K mg base ["self","block","values","told","number"] "Hold.write" (zab zew) f cdv A outer s H E) (λ_=>E):=zba
 exact⟨zg4 K a (λ_=>E),(zae (zbq (i:=2) sc_Hold_write.nd rfl (Or.inl rfl) (za1 (za2 (pvr 0) rfl) T.c_Plank m_Plank_read (hr.mono (by decide)) hx.passes (zaa (pvr 1) zaf)))
   (zae (zbq (i:=3) sc_Hold_write.nd rfl (Or.inl rfl) (za1 (pvr 0) T.c_Hold m_Hold_outcome (hr.mono (by decide)) hx.passes (zaa (pvr 1) (zaa zx9 zaf))))
   (zae (zgx hx.po rfl (zop (zdb zbk (pvr 3) zak (λ_ _=>rfl))) (zb3 (i:=4) sc_Hold_write.nd rfl (Or.inl rfl)) (zah (zkh (ze8 hr) (za2 (pvr 0) rfl) (pvr 4) zrt rfl)))
   (zae (zfr (za1 (za2 (pvr 0) rfl) T.c_Plank m_Plank_write (hr.mono (by decide)) hx.passes (zaa (pvr 1) (zaa (za1 (pvr 0) T.c_Hold m_Hold_laid_over (hr.mono (by decide)) hx.passes (zaa (pvr 2) (zaa (pvr 1) zaf))) zaf))))
   (zah (zax (pvr 3))))))),R vs H Q E h⟩
abbrev zdf:Stmt:=zbt (top 25) 8
theorem zrp:zaq ["self"] ["self"] (zab zdf):=⟨rfl,rfl,rfl,by decide +kernel,rfl,by decide +kernel,by decide +kernel⟩
theorem zrq(T:Txt K mg a)(F:Fun K "plank" "Layout.plank" zdf f fd)(m_Layout_blocks:MCal P w K mg base (a "Layout") 2 "blocks" ["self"] (zb1 K a))(n_Plank:NCal P w K mg base (a "Plank") 1 "Plank" ["self","blocks","cells"] (zc1 K a))
  (R:RdOk (zb8 K a) (zga K a) ["self"]) (L:zcj (zb8 K a) 1) :
  FnOk P w K mg base (cxE P w) 3 f fd ["self"] (zb8 K a):=by
 refine F.okE zrp L (λcdv A outer s H vs Q E hr h=> ?_)
 have hx:XOk (cxOf (cxE P w) P w K mg base ["self"] "Layout.plank" (zab zdf) f cdv A outer s H E) (λ_=>E):=zba
 exact⟨zga K a (λ_=>E),(zah (zax (zp8 n_Plank (hr.mono (by decide)) hx.passes rfl (zaa (zbz (pvr 0) T.c_Layout m_Layout_blocks (hr.mono (by decide)) hx.passes) (zaa (za2 (pvr 0) rfl) zaf))))),R vs H Q E h⟩
abbrev zfu:Stmt:=top 29
theorem zwg:zaq ["layout","kind","k"] ["layout","kind","k"] (zab zfu):=⟨rfl,rfl,rfl,by decide +kernel,rfl,by decide +kernel,by decide +kernel⟩
theorem zwh(T:Txt K mg a)(F:Fun K "_law_place" "_law_place" zfu f fd)(m_Layout_name_at:MCal P w K mg base (a "Layout") 2 "name_at" ["self","k"] (za4 K a))(m_Layout_record_mark:MCal P w K mg base (a "Layout") 2 "record_mark" ["self","k"] (zau K a))(m_Layout_piece_mark:MCal P w K mg base (a "Layout") 2 "piece_mark" ["self","k"] (zaw K a))(m_Layout_record_at:MCal P w K mg base (a "Layout") 2 "record_at" ["self","k"] (zbb K a))(m_Layout_piece_at:MCal P w K mg base (a "Layout") 2 "piece_at" ["self","k"] (zbi K a))
  (R:RdOk (zb2 K a) (zhs K a) ["layout","kind","k"]) (L:zcj (zb2 K a) 3) :
  FnOk P w K mg base (cxE P w) 3 f fd ["layout","kind","k"] (zb2 K a):=by
 refine F.okE zwg L (λcdv A outer s H vs Q E hr h=> ?_)
 have hx:XOk (cxOf (cxE P w) P w K mg base ["layout","kind","k"] "_law_place" (zab zfu) f cdv A outer s H E) (λ_=>E):=zba
 exact⟨zhs K a (λ_=>E),(zae (ze2 (zby (zgz hr.units) (pvr 1) zak (zcx _)) (zah (zax (za1 (pvr 0) T.c_Layout m_Layout_name_at (hr.mono (by decide)) hx.passes (zaa (pvr 2) zaf)))) zbj)
   (zae (ze2 (zby (zgz hr.units) (pvr 1) zak (zcx _)) (zah (zax (za1 (pvr 0) T.c_Layout m_Layout_record_mark (hr.mono (by decide)) hx.passes (zaa (pvr 2) zaf)))) zbj)
   (zae (ze2 (zby (zgz hr.units) (pvr 1) zak (zcx _)) (zah (zax (za1 (pvr 0) T.c_Layout m_Layout_piece_mark (hr.mono (by decide)) hx.passes (zaa (pvr 2) zaf)))) zbj)
   (zae (ze2 (zby (zgz hr.units) (pvr 1) zak (zcx _)) (zah (zax (za1 (pvr 0) T.c_Layout m_Layout_record_at (hr.mono (by decide)) hx.passes (zaa (pvr 2) zaf)))) zbj)
   (zah (zax (za1 (pvr 0) T.c_Layout m_Layout_piece_at (hr.mono (by decide)) hx.passes (zaa (pvr 2) zaf)))))))),R vs H Q E h⟩
abbrev zd3:Stmt:=zbt (top 18) 1
theorem sc_Book_change:zaq ["self","place","value","needs","ahead","number"] ["self","place","value","needs"] (zab zd3):=⟨rfl,rfl,rfl,by decide +kernel,rfl,by decide +kernel,by decide +kernel⟩
theorem zsq(T:Txt K mg a)(F:Fun K "change" "Book.change" zd3 f fd)(m_Hold_newest:MCal P w K mg base (a "Hold") 3 "newest" ["self","place"] (zbx K a))(m_Hold_ask_for_changes:MCal P w K mg base (a "Hold") 1 "ask_for_changes" ["self","numbers"] (zay K a))(c_needs_with:Cal P w K mg base (1) "needs_with" ["needs","ahead"] (zc3 K a))(n_Change:NCal P w K mg base (a "Change") 1 "Change" ["self","place","value","needs"] (zcm K a))
  (R:RdOk (zcn K a) (zgs K a) ["self","place","value","needs","ahead","number"]) (L:zcj (zcn K a) 4) :
  FnOk P w K mg base (cxE P w) 4 f fd ["self","place","value","needs"] (zcn K a):=by
 refine F.okE sc_Book_change L (λcdv A outer s H vs Q E hr h=> ?_)
 have hx:XOk (cxOf (cxE P w) P w K mg base ["self","place","value","needs","ahead","number"] "Book.change" (zab zd3) f cdv A outer s H E) (λ_=>E):=zba
 exact⟨zgs K a (λ_=>E),(zae (zbq (i:=4) sc_Book_change.nd rfl (Or.inl rfl) (za1 (pvr 0) T.c_Hold m_Hold_newest (hr.mono (by decide)) hx.passes (zaa (pvr 1) zaf)))
   (zae (zfr (za1 (pvr 0) T.c_Hold m_Hold_ask_for_changes (hr.mono (by decide)) hx.passes (zaa (pvr 3) zaf)))
   (zae (zbq (i:=5) sc_Book_change.nd rfl (Or.inl rfl) (zch zdk rfl T.b_len (by rfl) (zaa (za2 (pvr 0) rfl) zaf)))
   (zae (zfr (zaab PySem.F.plainAttrs_list PySem.F.slot_list_append PySem.F.type_list_append zi8 (za2 (pvr 0) rfl) (zaa (zp8 n_Change (hr.mono (by decide)) hx.passes rfl (zaa (pvr 1) (zaa (pvr 2) (zaa (zav c_needs_with (hr.mono (by decide)) hx.passes rfl (zaa (pvr 3) (zaa (pvr 4) zaf))) zaf)))) zaf)))
   (zae (zfr (zaab PySem.F.plainAttrs_list PySem.F.slot_list_append PySem.F.type_list_append zi8 (zdb zbk (za2 (pvr 0) rfl) (zdb zbk (pvr 1) zak (λ_ _=>rfl)) (λ_ _=>rfl)) (zaa (pvr 5) zaf)))
   (zae (zkh (ze8 hr) (za2 (pvr 0) rfl) (pvr 1) (pvr 5) rfl)
   (zah (zax (pvr 5))))))))),R vs H Q E h⟩
abbrev zdg:Stmt:=zbt (top 18) 2
theorem sc_Book_in_hand:zaq ["self","place","number"] ["self","place"] (zab zdg):=⟨rfl,rfl,rfl,by decide +kernel,rfl,by decide +kernel,by decide +kernel⟩
theorem zrr(T:Txt K mg a)(F:Fun K "in_hand" "Book.in_hand" zdg f fd)(m_Hold_newest:MCal P w K mg base (a "Hold") 3 "newest" ["self","place"] (zbx K a))(m_Plank_read:MCal P w K mg base (a "Plank") 2 "read" ["self","block"] (zbm K a))
  (R:RdOk (zbl K a) (zgb K a) ["self","place","number"]) (L:zcj (zbl K a) 2) :
  FnOk P w K mg base (cxE P w) 4 f fd ["self","place"] (zbl K a):=by
 refine F.okE sc_Book_in_hand L (λcdv A outer s H vs Q E hr h=> ?_)
 have hx:XOk (cxOf (cxE P w) P w K mg base ["self","place","number"] "Book.in_hand" (zab zdg) f cdv A outer s H E) (λ_=>E):=zba
 exact⟨zgb K a (λ_=>E),(zae (zbq (i:=2) sc_Book_in_hand.nd rfl (Or.inl rfl) (za1 (pvr 0) T.c_Hold m_Hold_newest (hr.mono (by decide)) hx.passes (zaa (pvr 1) zaf)))
   (zae (ze2 (zby zx1 (pvr 2) zh3 (zcx _)) (zah (zax (zdb zbk (za1 (za2 (pvr 0) rfl) T.c_Plank m_Plank_read (hr.mono (by decide)) hx.passes (zaa (zdb zbk (pvr 1) zak (λ_ _=>rfl)) zaf)) (zdb zbk (pvr 1) zak (λ_ _=>rfl)) (λ_ _=>rfl)))) zbj)
   (zah (zax (za2 (zdb zbk (za2 (pvr 0) rfl) (pvr 2) (λ_ _=>rfl)) rfl))))),R vs H Q E h⟩
abbrev zgk:Stmt:=top 32
theorem sc_law_laid:zaq ["layout","rows","script","counts","cell","kind","many","full","k","block","at"] ["layout","rows","script"] (zab zgk):=⟨rfl,rfl,rfl,by decide +kernel,rfl,by decide +kernel,by decide +kernel⟩
theorem zxw(T:Txt K mg a)(F:Fun K "_law_laid" "_law_laid" zgk f fd)(m_Layout_counts:MCal P w K mg base (a "Layout") 1 "counts" ["self"] (zan K a))(c_law_cell_at:Cal P w K mg base (1) "_law_cell_at" ["script","k"] (za5 K a))(c_law_mill:Cal P w K mg base (1) "_law_mill" ["cell","turn"] (zat K a))(c_law_place:Cal P w K mg base (3) "_law_place" ["layout","kind","k"] (zb2 K a))(c_law_taken:Cal P w K mg base (2) "_law_taken" ["layout","kind","number"] (zco K a))
  (R:RdOk (zep K a) (zik K a) ["layout","rows","script","counts","cell","kind","many","full","k","block","at"]) (L:zcj (zep K a) 3) :
  FnOk P w K mg base (cxE P w) 4 f fd ["layout","rows","script"] (zep K a):=by
 refine F.okE sc_law_laid L (λcdv A outer s H vs Q E hr h=> ?_)
 have hx:XOk (cxOf (cxE P w) P w K mg base ["layout","rows","script","counts","cell","kind","many","full","k","block","at"] "_law_laid" (zab zgk) f cdv A outer s H E) (λ_=>E):=zba
 exact⟨zik K a (λ_=>E),(zae (zbq (i:=3) sc_law_laid.nd rfl (Or.inl rfl) (zbz (pvr 0) T.c_Layout m_Layout_counts (hr.mono (by decide)) hx.passes))
   (zae (zbq (i:=4) sc_law_laid.nd rfl (Or.inl rfl) (zav c_law_cell_at (hr.mono (by decide)) hx.passes rfl (zaa (pvr 2) (zaa zak zaf))))
   (zah (zgx hx.po rfl (zcr rfl T.b_range (zaa zak zaf)) (zb3 (i:=5) sc_law_laid.nd rfl (Or.inl rfl)) (zae (zbq (i:=6) sc_law_laid.nd rfl (Or.inl rfl) (zdb zbk (pvr 3) (zdb zbk (zit (zaa zak (zaa zak (zaa zak (zaa zak (zaa zak zaf)))))) (pvr 5) (λ_ _=>rfl)) (λ_ _=>rfl)))
   (zae (zbq (i:=7) sc_law_laid.nd rfl (Or.inl rfl) (za7 zdh (zav c_law_mill (hr.mono (by decide)) hx.passes rfl (zaa (pvr 4) (zaa (za7 zcc zak (pvr 5)) zaf))) (za7 zcc (pvr 6) zak)))
   (zae (ze2 (PW.pt (zxy (zby (zgz hr.units) (za7 zdh (zav c_law_mill (hr.mono (by decide)) hx.passes rfl (zaa (pvr 4) (zaa zak zaf))) zak) zak (zcx _)) (zte (zby zly (pvr 5) zak (zcx _))))) (zah (zbq (i:=7) sc_law_laid.nd rfl (Or.inl rfl) (pvr 6))) zbj)
   (zah (zgx hx.po rfl (zcr rfl T.b_range (zaa (pvr 7) zaf)) (zb3 (i:=8) sc_law_laid.nd rfl (Or.inl rfl)) (zae (zuu (zav c_law_place (hr.mono (by decide)) hx.passes rfl (zaa (pvr 0) (zaa (pvr 5) (zaa (pvr 8) zaf)))) (zadg rfl (zp5 (zb3 (i:=9) sc_law_laid.nd rfl (Or.inl rfl)) (zp5 (zb3 (i:=10) sc_law_laid.nd rfl (Or.inl rfl)) zzu))))
   (zah (zuu (zav c_law_taken (hr.mono (by decide)) hx.passes rfl (zaa (pvr 0) (zaa (pvr 5) (zaa (zav c_law_mill (hr.mono (by decide)) hx.passes rfl (zaa (pvr 4) (zaa (za7 zcc (za7 zcc zak (za7 zha zak (pvr 5))) (pvr 8)) zaf))) zaf)))) (zx0 (zdb zbk (pvr 1) (pvr 9) (λ_ _=>rfl)) (pvr 10) ztq))))))))))))),R vs H Q E h⟩
abbrev zex:Stmt:=top 33
theorem sc_law_lowest:zaq ["layout","hand","kind","k","value"] ["layout","hand","kind"] (zab zex):=⟨rfl,rfl,rfl,by decide +kernel,rfl,by decide +kernel,by decide +kernel⟩
theorem zuo(T:Txt K mg a)(F:Fun K "_law_lowest" "_law_lowest" zex f fd)(m_Layout_counts:MCal P w K mg base (a "Layout") 1 "counts" ["self"] (zan K a))(c_law_place:Cal P w K mg base (3) "_law_place" ["layout","kind","k"] (zb2 K a))
  (R:RdOk (zc5 K a) (zg5 K a) ["layout","hand","kind","k","value"]) (L:zcj (zc5 K a) 3) :
  FnOk P w K mg base (cxE P w) 4 f fd ["layout","hand","kind"] (zc5 K a):=by
 refine F.okE sc_law_lowest L (λcdv A outer s H vs Q E hr h=> ?_)
 have hx:XOk (cxOf (cxE P w) P w K mg base ["layout","hand","kind","k","value"] "_law_lowest" (zab zex) f cdv A outer s H E) (λ_=>E):=zba
 exact⟨zg5 K a (λ_=>E),(zae (zgx hx.po rfl (zcr rfl T.b_range (zaa (zdb zbk (zbz (pvr 0) T.c_Layout m_Layout_counts (hr.mono (by decide)) hx.passes) (pvr 2) (λ_ _=>rfl)) zaf)) (zb3 (i:=3) sc_law_lowest.nd rfl (Or.inl rfl)) (zae (zbq (i:=4) sc_law_lowest.nd rfl (Or.inl rfl) (zdv (ze8 hr) (pvr 1) (zav c_law_place (hr.mono (by decide)) hx.passes rfl (zaa (pvr 0) (zaa (pvr 2) (zaa (pvr 3) zaf)))) (λ_ _=>rfl)))
   (zah (ze2 (PW.pt (zaf9 (zby zx1 (pvr 4) zh3 (zcx _)) (zadf (PW.pt (zxy (zby zag3 (pvr 2) zak (zcx _)) (zte (zby (zgz hr.units) (pvr 4) zak (zcx _)))))))) (zah (zax (pvr 3))) zbj))))
   (zah (zax (zaia zage zak)))),R vs H Q E h⟩
abbrev zey:Stmt:=top 38
theorem sc_law_write:zaq ["hold","state","block","at"] ["hold","state","block"] (zab zey):=⟨rfl,rfl,rfl,by decide +kernel,rfl,by decide +kernel,by decide +kernel⟩
theorem zwi(T:Txt K mg a)(F:Fun K "_law_write" "_law_write" zey f fd)(m_Hold_write:MCal P w K mg base (a "Hold") 3 "write" ["self","block"] (zc4 K a))
  (R:RdOk (zdp K a) (zht K a) ["hold","state","block","at"]) (L:zcj (zdp K a) 3) :
  FnOk P w K mg base (cxE P w) 4 f fd ["hold","state","block"] (zdp K a):=by
 refine F.okE sc_law_write L (λcdv A outer s H vs Q E hr h=> ?_)
 have hx:XOk (cxOf (cxE P w) P w K mg base ["hold","state","block","at"] "_law_write" (zab zey) f cdv A outer s H E) (λ_=>E):=zba
 exact⟨zht K a (λ_=>E),(zae (zfr (za1 (pvr 0) T.c_Hold m_Hold_write (hr.mono (by decide)) hx.passes (zaa (pvr 2) zaf)))
   (zae (zkh (ze8 hr) (pvr 1) zcy (za7 zcc (zdv (ze8 hr) (pvr 1) zcy (λ_ _=>rfl)) zak) rfl)
   (zae (zkh (ze8 hr) (pvr 1) zcy (zqn (tn:=["pair"]) (cn:=["block"]) (cap:=[2]) (zlz (outer:=zab zey) (N:=["hold","state","block","at"]) rfl rfl (by decide +kernel)) rfl (zop (zdv (ze8 hr) (pvr 1) zcy (λ_ _=>rfl))) (λ_ _ _ _ _ _=>(zb3 (i:=0) (show(["pair","block"]:List Str).Nodup from by decide +kernel) rfl (Or.inl rfl))) (λ_ _ _ _ _ _=>(zaal (zby (zyf hr.units) (zdb zbk (zdb zbk (pvr 0) zak (λ_ _=>rfl)) zak (λ_ _=>rfl)) (pvr 1) (zcx _)))) (λ_ _ _ _ _ _=>(pvr 0))) rfl)
   (zah (zgx hx.po rfl (zcr rfl T.b_range (zaa (zch zdk rfl T.b_len (by rfl) (zaa (zdb zbk (zdv (ze8 hr) (pvr 1) zcy (λ_ _=>rfl)) (pvr 2) (λ_ _=>rfl)) zaf)) zaf)) (zb3 (i:=3) sc_law_write.nd rfl (Or.inl rfl)) (zah (zuu (zdv (ze8 hr) (zdv (ze8 hr) (pvr 1) zcy (λ_ _=>rfl)) (zgy (zaa (pvr 2) (zaa (pvr 3) zaf))) (λ_ _=>rfl)) (zx0 (zdb zbk (zdv (ze8 hr) (pvr 1) zcy (λ_ _=>rfl)) (pvr 2) (λ_ _=>rfl)) (pvr 3) ztq)))))))),R vs H Q E h⟩
abbrev zd4:Stmt:=top 15
theorem sc_lowest_with:zaq ["hold","places","values","k","place"] ["hold","places","values"] (zab zd4):=⟨rfl,rfl,rfl,by decide +kernel,rfl,by decide +kernel,by decide +kernel⟩
theorem zsr(T:Txt K mg a)(F:Fun K "lowest_with" "lowest_with" zd4 f fd)(m_Hold_in_hand:MCal P w K mg base (a "Hold") 4 "in_hand" ["self","place"] (zbl K a))
  (R:RdOk (za6 K a) (zgt K a) ["hold","places","values","k","place"]) (L:zcj (za6 K a) 3) :
  FnOk P w K mg base (cxE P w) 5 f fd ["hold","places","values"] (za6 K a):=by
 refine F.okE sc_lowest_with L (λcdv A outer s H vs Q E hr h=> ?_)
 have hx:XOk (cxOf (cxE P w) P w K mg base ["hold","places","values","k","place"] "lowest_with" (zab zd4) f cdv A outer s H E) (λ_=>E):=zba
 exact⟨zgt K a (λ_=>E),(zae (zgx hx.po rfl (zafr rfl T.b_enumerate (zaa (pvr 1) zaf)) (zadg rfl (zp5 (zb3 (i:=3) sc_lowest_with.nd rfl (Or.inl rfl)) (zp5 (zb3 (i:=4) sc_lowest_with.nd rfl (Or.inl rfl)) zzu))) (zah (ze2 (zby (zahx hr.units) (za1 (pvr 0) T.c_Hold m_Hold_in_hand (hr.mono (by decide)) hx.passes (zaa (pvr 4) zaf)) (pvr 2) (by with_unfolding_all rfl)) (zah (zax (pvr 3))) zbj)))
   (zah (zlw hx T.x_NoRoom rfl T.r_NoRoom (zaa zcy zaf)))),R vs H Q E h⟩
abbrev zez:Stmt:=top 37
theorem sc_law_change:zaq ["layout","hold","state","cell","kind","many","k","value","place"] ["layout","hold","state","cell"] (zab zez):=⟨rfl,rfl,rfl,by decide +kernel,rfl,by decide +kernel,by decide +kernel⟩
theorem zup(T:Txt K mg a)(F:Fun K "_law_change" "_law_change" zez f fd)(c_law_mill:Cal P w K mg base (1) "_law_mill" ["cell","turn"] (zat K a))(m_Layout_counts:MCal P w K mg base (a "Layout") 1 "counts" ["self"] (zan K a))(c_law_taken:Cal P w K mg base (2) "_law_taken" ["layout","kind","number"] (zco K a))(c_law_freed:Cal P w K mg base (1) "_law_freed" ["kind","number"] (zdm K a))(c_law_place:Cal P w K mg base (3) "_law_place" ["layout","kind","k"] (zb2 K a))(m_Hold_change:MCal P w K mg base (a "Hold") 4 "change" ["self","place","value","needs"] (zcn K a))
  (R:RdOk (zc7 K a) (zg6 K a) ["layout","hold","state","cell","kind","many","k","value","place"]) (L:zcj (zc7 K a) 4) :
  FnOk P w K mg base (cxE P w) 5 f fd ["layout","hold","state","cell"] (zc7 K a):=by
 refine F.okE sc_law_change L (λcdv A outer s H vs Q E hr h=> ?_)
 have hx:XOk (cxOf (cxE P w) P w K mg base ["layout","hold","state","cell","kind","many","k","value","place"] "_law_change" (zab zez) f cdv A outer s H E) (λ_=>E):=zba
 exact⟨zg6 K a (λ_=>E),(zae (zbq (i:=4) sc_law_change.nd rfl (Or.inl rfl) (za7 zdh (zav c_law_mill (hr.mono (by decide)) hx.passes rfl (zaa (pvr 3) (zaa zak zaf))) zak))
   (zae (zbq (i:=5) sc_law_change.nd rfl (Or.inl rfl) (zdb zbk (zbz (pvr 0) T.c_Layout m_Layout_counts (hr.mono (by decide)) hx.passes) (zdb zbk (zit (zaa zak (zaa zak (zaa zak (zaa zak (zaa zak zaf)))))) (pvr 4) (λ_ _=>rfl)) (λ_ _=>rfl)))
   (zae (zbq (i:=6) sc_law_change.nd rfl (Or.inl rfl) (za7 zdh (zav c_law_mill (hr.mono (by decide)) hx.passes rfl (zaa (pvr 3) (zaa zak zaf))) (pvr 5)))
   (zae (ze2 (zby (zgz hr.units) (za7 zdh (zav c_law_mill (hr.mono (by decide)) hx.passes rfl (zaa (pvr 3) (zaa zak zaf))) zak) zak (zcx _)) (zah (zbq (i:=6) sc_law_change.nd rfl (Or.inl rfl) (za7 zdh (za7 zdh (pvr 6) zak) (pvr 5)))) zbj)
   (zae (zbq (i:=7) sc_law_change.nd rfl (Or.inl rfl) (zav c_law_taken (hr.mono (by decide)) hx.passes rfl (zaa (pvr 0) (zaa (pvr 4) (zaa (zav c_law_mill (hr.mono (by decide)) hx.passes rfl (zaa (pvr 3) (zaa zak zaf))) zaf)))))
   (zae (ze2 (zby zly (za7 zdh (zav c_law_mill (hr.mono (by decide)) hx.passes rfl (zaa (pvr 3) (zaa zak zaf))) zak) zak (zcx _)) (zah (zbq (i:=7) sc_law_change.nd rfl (Or.inl rfl) (zav c_law_freed (hr.mono (by decide)) hx.passes rfl (zaa (pvr 4) (zaa (zav c_law_mill (hr.mono (by decide)) hx.passes rfl (zaa (pvr 3) (zaa zak zaf))) zaf))))) zbj)
   (zae (zbq (i:=8) sc_law_change.nd rfl (Or.inl rfl) (zav c_law_place (hr.mono (by decide)) hx.passes rfl (zaa (pvr 0) (zaa (pvr 4) (zaa (pvr 6) zaf)))))
   (zae (zfr (zaab PySem.F.plainAttrs_list PySem.F.slot_list_append PySem.F.type_list_append zi8 (zdv (ze8 hr) (pvr 2) zcy (λ_ _=>rfl)) (zaa (zgy (zaa (za1 (pvr 1) T.c_Hold m_Hold_change (hr.mono (by decide)) hx.passes (zaa (pvr 8) (zaa (pvr 7) (zaa (zit zaf) zaf)))) (zaa (pvr 8) zaf))) zaf)))
   (zah (zkh (ze8 hr) (zdv (ze8 hr) (pvr 2) zcy (λ_ _=>rfl)) (pvr 8) (pvr 7) rfl)))))))))),R vs H Q E h⟩
abbrev zfy:Stmt:=top 39
theorem sc_law_left:zaq ["hold","plank","state","place","block"] ["hold","plank","state"] (zab zfy):=⟨rfl,rfl,rfl,by decide +kernel,rfl,by decide +kernel,by decide +kernel⟩
theorem zxx(T:Txt K mg a)(F:Fun K "_law_left" "_law_left" zfy f fd)(m_Hold_in_hand:MCal P w K mg base (a "Hold") 4 "in_hand" ["self","place"] (zbl K a))(m_Plank_read:MCal P w K mg base (a "Plank") 2 "read" ["self","block"] (zbm K a))(m_Plank_writings:MCal P w K mg base (a "Plank") 1 "writings" ["self"] (zbr K a))(m_Hold_waiting:MCal P w K mg base (a "Hold") 1 "waiting" ["self"] (zb9 K a))
  (R:RdOk (zeq K a) (zil K a) ["hold","plank","state","place","block"]) (L:zcj (zeq K a) 3) :
  FnOk P w K mg base (cxE P w) 5 f fd ["hold","plank","state"] (zeq K a):=by
 refine F.okE sc_law_left L (λcdv A outer s H vs Q E hr h=> ?_)
 have hx:XOk (cxOf (cxE P w) P w K mg base ["hold","plank","state","place","block"] "_law_left" (zab zfy) f cdv A outer s H E) (λ_=>E):=zba
 exact⟨zil K a (λ_=>E),(zae (zgx hx.po rfl (zafp (zdv (ze8 hr) (pvr 2) zcy (λ_ _=>rfl))) (zb3 (i:=3) sc_law_left.nd rfl (Or.inl rfl)) (zah (ze2 (zby (zyf hr.units) (za1 (pvr 0) T.c_Hold m_Hold_in_hand (hr.mono (by decide)) hx.passes (zaa (pvr 3) zaf)) (zdv (ze8 hr) (zdv (ze8 hr) (pvr 2) zcy (λ_ _=>rfl)) (pvr 3) (λ_ _=>rfl)) (zcx _)) (zah (zax zrt)) zbj)))
   (zae (zgx hx.po rfl (zcr rfl T.b_range (zaa (zch zdk rfl T.b_len (by rfl) (zaa (zdv (ze8 hr) (pvr 2) zcy (λ_ _=>rfl)) zaf)) zaf)) (zb3 (i:=4) sc_law_left.nd rfl (Or.inl rfl)) (zah (ze2 (zby (zyf hr.units) (za1 (pvr 1) T.c_Plank m_Plank_read (hr.mono (by decide)) hx.passes (zaa (pvr 4) zaf)) (zdb zbk (zdv (ze8 hr) (pvr 2) zcy (λ_ _=>rfl)) (pvr 4) (λ_ _=>rfl)) (zcx _)) (zah (zax zrt)) zbj)))
   (zah (zax (zut (zwp (zgz hr.units) (zbz (pvr 0) T.c_Hold m_Hold_waiting (hr.mono (by decide)) hx.passes) (zqn (tn:=["pair"]) (cn:=[]) (cap:=[]) (zlz (outer:=zab zfy) (N:=["hold","plank","state","place","block"]) rfl rfl (by decide +kernel)) rfl (zop (zdv (ze8 hr) (pvr 2) zcy (λ_ _=>rfl))) (λ_ _ _ _ _ _=>(zb3 (i:=0) (show(["pair"]:List Str).Nodup from by decide +kernel) rfl (Or.inl rfl))) (λ_ _ _ _ _ _=>zki) (λ_ _ _ _ _ _=>(zdb zbk (pvr 0) zak (λ_ _=>rfl)))) (zcx _)) (zxz (zwp (zgz hr.units) (zbz (pvr 1) T.c_Plank m_Plank_writings (hr.mono (by decide)) hx.passes) (zdv (ze8 hr) (pvr 2) zcy (λ_ _=>rfl)) (zcx _)))))))),R vs H Q E h⟩
abbrev ze0:Stmt:=top 12
theorem sc_free_name:zaq ["layout","hold","places"] ["layout","hold"] (zab ze0):=⟨rfl,rfl,rfl,by decide +kernel,rfl,by decide +kernel,by decide +kernel⟩
theorem zwj(T:Txt K mg a)(F:Fun K "free_name" "free_name" ze0 f fd)(m_Layout_counts:MCal P w K mg base (a "Layout") 1 "counts" ["self"] (zan K a))(m_Layout_name_at:MCal P w K mg base (a "Layout") 2 "name_at" ["self","k"] (za4 K a))(c_lowest_with:Cal P w K mg base (5) "lowest_with" ["hold","places","values"] (za6 K a))
  (R:RdOk (zdn K a) (zhu K a) ["layout","hold","places"]) (L:zcj (zdn K a) 2) :
  FnOk P w K mg base (cxE P w) 6 f fd ["layout","hold"] (zdn K a):=by
 refine F.okE sc_free_name L (λcdv A outer s H vs Q E hr h=> ?_)
 have hx:XOk (cxOf (cxE P w) P w K mg base ["layout","hold","places"] "free_name" (zab ze0) f cdv A outer s H E) (λ_=>E):=zba
 exact⟨zhu K a (λ_=>E),(zae (ztm (i:=2) (tn:=["k"]) (cn:=["layout"]) (cap:=[0]) (zlz (outer:=zab ze0) (N:=["layout","hold","places"]) rfl rfl (by decide +kernel)) rfl sc_free_name.nd rfl rfl (zcr rfl T.b_range (zaa (zdb zbk (zbz (pvr 0) T.c_Layout m_Layout_counts (hr.mono (by decide)) hx.passes) zak (λ_ _=>rfl)) zaf)) (λ_ _ _ _ _ _=>(zb3 (i:=0) (show(["k","layout"]:List Str).Nodup from by decide +kernel) rfl (Or.inl rfl))) (λ_ _ _ _ _ _=>zki) (λ_ _ _ _ _ _=>(za1 (pvr 1) T.c_Layout m_Layout_name_at (hr.mono (by decide)) ztn (zaa (pvr 0) zaf))))
   (zah (zax (zav c_lowest_with (hr.mono (by decide)) hx.passes rfl (zaa (pvr 1) (zaa (pvr 2) (zaa (zgy (zaa zh3 zaf)) zaf))))))),R vs H Q E h⟩
abbrev zda:Stmt:=top 13
theorem sc_free_record:zaq ["layout","hold","marks"] ["layout","hold"] (zab zda):=⟨rfl,rfl,rfl,by decide +kernel,rfl,by decide +kernel,by decide +kernel⟩
theorem zss(T:Txt K mg a)(F:Fun K "free_record" "free_record" zda f fd)(m_Layout_counts:MCal P w K mg base (a "Layout") 1 "counts" ["self"] (zan K a))(m_Layout_record_mark:MCal P w K mg base (a "Layout") 2 "record_mark" ["self","k"] (zau K a))(c_lowest_with:Cal P w K mg base (5) "lowest_with" ["hold","places","values"] (za6 K a))
  (R:RdOk (zcp K a) (zgu K a) ["layout","hold","marks"]) (L:zcj (zcp K a) 2) :
  FnOk P w K mg base (cxE P w) 6 f fd ["layout","hold"] (zcp K a):=by
 refine F.okE sc_free_record L (λcdv A outer s H vs Q E hr h=> ?_)
 have hx:XOk (cxOf (cxE P w) P w K mg base ["layout","hold","marks"] "free_record" (zab zda) f cdv A outer s H E) (λ_=>E):=zba
 exact⟨zgu K a (λ_=>E),(zae (ztm (i:=2) (tn:=["k"]) (cn:=["layout"]) (cap:=[0]) (zlz (outer:=zab zda) (N:=["layout","hold","marks"]) rfl rfl (by decide +kernel)) rfl sc_free_record.nd rfl rfl (zcr rfl T.b_range (zaa (zdb zbk (zbz (pvr 0) T.c_Layout m_Layout_counts (hr.mono (by decide)) hx.passes) zak (λ_ _=>rfl)) zaf)) (λ_ _ _ _ _ _=>(zb3 (i:=0) (show(["k","layout"]:List Str).Nodup from by decide +kernel) rfl (Or.inl rfl))) (λ_ _ _ _ _ _=>zki) (λ_ _ _ _ _ _=>(za1 (pvr 1) T.c_Layout m_Layout_record_mark (hr.mono (by decide)) ztn (zaa (pvr 0) zaf))))
   (zah (zax (zav c_lowest_with (hr.mono (by decide)) hx.passes rfl (zaa (pvr 1) (zaa (pvr 2) (zaa (zgy (zaa zh3 (zaa zak zaf))) zaf))))))),R vs H Q E h⟩
abbrev zdr:Stmt:=top 14
theorem sc_free_piece:zaq ["layout","hold","marks"] ["layout","hold"] (zab zdr):=⟨rfl,rfl,rfl,by decide +kernel,rfl,by decide +kernel,by decide +kernel⟩
theorem zuq(T:Txt K mg a)(F:Fun K "free_piece" "free_piece" zdr f fd)(m_Layout_counts:MCal P w K mg base (a "Layout") 1 "counts" ["self"] (zan K a))(m_Layout_piece_mark:MCal P w K mg base (a "Layout") 2 "piece_mark" ["self","k"] (zaw K a))(c_lowest_with:Cal P w K mg base (5) "lowest_with" ["hold","places","values"] (za6 K a))
  (R:RdOk (zc6 K a) (zg7 K a) ["layout","hold","marks"]) (L:zcj (zc6 K a) 2) :
  FnOk P w K mg base (cxE P w) 6 f fd ["layout","hold"] (zc6 K a):=by
 refine F.okE sc_free_piece L (λcdv A outer s H vs Q E hr h=> ?_)
 have hx:XOk (cxOf (cxE P w) P w K mg base ["layout","hold","marks"] "free_piece" (zab zdr) f cdv A outer s H E) (λ_=>E):=zba
 exact⟨zg7 K a (λ_=>E),(zae (ztm (i:=2) (tn:=["k"]) (cn:=["layout"]) (cap:=[0]) (zlz (outer:=zab zdr) (N:=["layout","hold","marks"]) rfl rfl (by decide +kernel)) rfl sc_free_piece.nd rfl rfl (zcr rfl T.b_range (zaa (zdb zbk (zbz (pvr 0) T.c_Layout m_Layout_counts (hr.mono (by decide)) hx.passes) zak (λ_ _=>rfl)) zaf)) (λ_ _ _ _ _ _=>(zb3 (i:=0) (show(["k","layout"]:List Str).Nodup from by decide +kernel) rfl (Or.inl rfl))) (λ_ _ _ _ _ _=>zki) (λ_ _ _ _ _ _=>(za1 (pvr 1) T.c_Layout m_Layout_piece_mark (hr.mono (by decide)) ztn (zaa (pvr 0) zaf))))
   (zah (zax (zav c_lowest_with (hr.mono (by decide)) hx.passes rfl (zaa (pvr 1) (zaa (pvr 2) (zaa (zgy (zaa zh3 (zaa zak zaf))) zaf))))))),R vs H Q E h⟩
abbrev zhh:Stmt:=top 34
theorem zzp:zaq ["kind","layout","hold"] ["kind","layout","hold"] (zab zhh):=⟨rfl,rfl,rfl,by decide +kernel,rfl,by decide +kernel,by decide +kernel⟩
theorem zzq(T:Txt K mg a)(F:Fun K "_law_ask" "_law_ask" zhh f fd)(c_free_name:Cal P w K mg base (6) "free_name" ["layout","hold"] (zdn K a))(c_free_record:Cal P w K mg base (6) "free_record" ["layout","hold"] (zcp K a))(c_free_piece:Cal P w K mg base (6) "free_piece" ["layout","hold"] (zc6 K a))
  (R:RdOk (zfx K a) (zjz K a) ["kind","layout","hold"]) (L:zcj (zfx K a) 3) :
  FnOk P w K mg base (cxE P w) 7 f fd ["kind","layout","hold"] (zfx K a):=by
 refine F.okE zzp L (λcdv A outer s H vs Q E hr h=> ?_)
 have hx:XOk (cxOf (cxE P w) P w K mg base ["kind","layout","hold"] "_law_ask" (zab zhh) f cdv A outer s H E) (λ_=>E):=zba
 exact⟨zjz K a (λ_=>E),(zae (ze2 (zby (zgz hr.units) (pvr 0) zak (zcx _)) (zah (zax (zav c_free_name (hr.mono (by decide)) hx.passes rfl (zaa (pvr 1) (zaa (pvr 2) zaf))))) zbj)
   (zae (ze2 (zby (zgz hr.units) (pvr 0) zak (zcx _)) (zah (zax (zav c_free_record (hr.mono (by decide)) hx.passes rfl (zaa (pvr 1) (zaa (pvr 2) zaf))))) zbj)
   (zah (zax (zav c_free_piece (hr.mono (by decide)) hx.passes rfl (zaa (pvr 1) (zaa (pvr 2) zaf))))))),R vs H Q E h⟩
abbrev zfv:Stmt:=top 35
theorem sc_law_right:zaq ["kind","layout","hold","due","found","right","other","e"] ["kind","layout","hold","due"] (zab zfv):=⟨rfl,rfl,rfl,by decide +kernel,rfl,by decide +kernel,by decide +kernel⟩
theorem zwk(T:Txt K mg a)(F:Fun K "_law_right" "_law_right" zfv f fd)(c_law_ask:Cal P w K mg base (7) "_law_ask" ["kind","layout","hold"] (zfx K a))
  (R:RdOk (zdo K a) (zhw K a) ["kind","layout","hold","due","found","right","other","e"]) (L:zcj (zdo K a) 4) :
  FnOk P w K mg base (cxE P w) 8 f fd ["kind","layout","hold","due"] (zdo K a):=by
 refine F.okE sc_law_right L (λcdv A outer s H vs Q E hr h=> ?_)
 have hx:XOk (cxOf (cxE P w) P w K mg base ["kind","layout","hold","due","found","right","other","e"] "_law_right" (zab zfv) f cdv A outer s H E) (λ_=>E):=zba
 exact⟨zhw K a (λ_=>E),(zae (zbq (i:=4) sc_law_right.nd rfl (Or.inl rfl) zh3)
   (zae (zbq (i:=5) sc_law_right.nd rfl (Or.inl rfl) zrt)
   (zae (zbq (i:=6) sc_law_right.nd rfl (Or.inl rfl) zrt)
   (zae (zag0 rfl rfl rfl rfl (λE1 _ _ hx1=>(zah (zbq (i:=4) sc_law_right.nd rfl (Or.inl rfl) (zav c_law_ask (hr.mono (by decide)) hx1.passes rfl (zaa (pvr 0) (zaa (pvr 1) (zaa (pvr 2) zaf))))))) (zaan (i:=7) sc_law_right.nd rfl rfl (zaeh rfl T.r_HoldError) (λ_=>(zae (zbq (i:=5) sc_law_right.nd rfl (Or.inl rfl) (zut (zch zhc rfl T.b_isinstance (by rfl) (zaa (pvr 7) (zaa (zu6 T.g_NoRoom rfl) zaf))) (zxz (zch zhc rfl T.b_isinstance (by rfl) (zaa (pvr 7) (zaa (zwn rfl T.b_ValueError (by rfl) rfl) zaf))))))
   (zah (zbq (i:=6) sc_law_right.nd rfl (Or.inl rfl) (zch zhc rfl T.b_isinstance (by rfl) (zaa (pvr 7) (zaa (zgy (zaa (zu6 T.g_NoBlock rfl) (zaa (zu6 T.g_NoChange rfl) (zaa (zu6 T.g_NoName rfl) (zaa (zu6 T.g_NoPiece rfl) (zaa (zu6 T.g_NoRow rfl) (zaa (zu6 T.g_NotSound rfl) (zaa (zu6 T.g_Twice rfl) zaf)))))))) zaf))))))) zagy))
   (zae (ze2 (zby zly (pvr 3) zak (zcx _)) (zah (zax (zut (pvr 5) (zxz (zaar (pvr 6)))))) zbj)
   (zah (zax (zut (zch zhc rfl T.b_isinstance (by rfl) (zaa (pvr 4) (zaa (zwn rfl T.b_int (by rfl) rfl) zaf))) (zut (zaar (zch zhc rfl T.b_isinstance (by rfl) (zaa (pvr 4) (zaa (zwn rfl T.b_bool (by rfl) rfl) zaf)))) (zxz (zwp (zgz hr.units) (pvr 4) (pvr 3) (zcx _)))))))))))),R vs H Q E h⟩
abbrev zcv:Stmt:=top 36
theorem sc_law_all_right:zaq ["layout","hold","hand","number","k","kind"] ["layout","hold","hand","number"] (zab zcv):=⟨rfl,rfl,rfl,by decide +kernel,rfl,by decide +kernel,by decide +kernel⟩
theorem zp3(T:Txt K mg a)(F:Fun K "_law_all_right" "_law_all_right" zcv f fd)(c_law_lowest:Cal P w K mg base (4) "_law_lowest" ["layout","hand","kind"] (zc5 K a))(c_law_right:Cal P w K mg base (8) "_law_right" ["kind","layout","hold","due"] (zdo K a))
  (R:RdOk (zbn K a) (zfq K a) ["layout","hold","hand","number","k","kind"]) (L:zcj (zbn K a) 4) :
  FnOk P w K mg base (cxE P w) 9 f fd ["layout","hold","hand","number"] (zbn K a):=by
 refine F.okE sc_law_all_right L (λcdv A outer s H vs Q E hr h=> ?_)
 have hx:XOk (cxOf (cxE P w) P w K mg base ["layout","hold","hand","number","k","kind"] "_law_all_right" (zab zcv) f cdv A outer s H E) (λ_=>E):=zba
 exact⟨zfq K a (λ_=>E),(zae (zgx hx.po rfl (zcr rfl T.b_range (zaa zak zaf)) (zb3 (i:=4) sc_law_all_right.nd rfl (Or.inl rfl)) (zae (zbq (i:=5) sc_law_all_right.nd rfl (Or.inl rfl) (za7 zdh (za7 zcc (pvr 3) (za7 zha (pvr 4) (za7 zcc zak (za7 zdh (za7 zg8 (pvr 3) zak) zak)))) zak))
   (zah (ze2 (zqe (ztf (zav c_law_right (hr.mono (by decide)) hx.passes rfl (zaa (pvr 5) (zaa (pvr 0) (zaa (pvr 1) (zaa (zav c_law_lowest (hr.mono (by decide)) hx.passes rfl (zaa (pvr 0) (zaa (pvr 2) (zaa (pvr 5) zaf)))) zaf))))) (λ_=>rfl))) (zah (zax zrt)) zbj))))
   (zah (zax zrt))),R vs H Q E h⟩
abbrev zrs:Stmt:=top 40
theorem sc_law:zaq ["script","number","most","sizes","layout","plank","rows","state","block","at","hold","cell"] ["script"] (zab zrs):=⟨rfl,rfl,rfl,by decide +kernel,rfl,by decide +kernel,by decide +kernel⟩
theorem zah7(T:Txt K mg a)(F:Fun K "law" "law" zrs f fd)(c_law_cell_at:Cal P w K mg base (1) "_law_cell_at" ["script","k"] (za5 K a))(c_law_mill:Cal P w K mg base (1) "_law_mill" ["cell","turn"] (zat K a))(n_Layout:NCal P w K mg base (a "Layout") 1 "Layout" ["self","names","records","pieces","cells"] (zck K a))(m_Layout_plank:MCal P w K mg base (a "Layout") 3 "plank" ["self"] (zb8 K a))(m_Plank_blocks:MCal P w K mg base (a "Plank") 1 "blocks" ["self"] (za3 K a))(m_Plank_cells:MCal P w K mg base (a "Plank") 1 "cells" ["self"] (zbv K a))(c_law_laid:Cal P w K mg base (4) "_law_laid" ["layout","rows","script"] (zep K a))(m_Plank_write:MCal P w K mg base (a "Plank") 2 "write" ["self","block","values"] (zbw K a))(n_Hold:NCal P w K mg base (a "Hold") 2 "Hold" ["self","plank"] (zc2 K a))(c_law_all_right:Cal P w K mg base (9) "_law_all_right" ["layout","hold","hand","number"] (zbn K a))(c_law_write:Cal P w K mg base (4) "_law_write" ["hold","state","block"] (zdp K a))(c_law_change:Cal P w K mg base (5) "_law_change" ["layout","hold","state","cell"] (zc7 K a))(c_law_left:Cal P w K mg base (5) "_law_left" ["hold","plank","state"] (zeq K a))
  (R:RdOk (sp_law K a) (zyp K a) ["script","number","most","sizes","layout","plank","rows","state","block","at","hold","cell"]) (L:zcj (sp_law K a) 1) :
  FnOk P w K mg base (cxE P w) 10 f fd ["script"] (sp_law K a):=by
 refine F.okE sc_law L (λcdv A outer s H vs Q E hr h=> ?_)
 have hx:XOk (cxOf (cxE P w) P w K mg base ["script","number","most","sizes","layout","plank","rows","state","block","at","hold","cell"] "law" (zab zrs) f cdv A outer s H E) (λ_=>E):=zba
 exact⟨zyp K a (λ_=>E),(zae (zbq (i:=1) sc_law.nd rfl (Or.inl rfl) (zav c_law_mill (hr.mono (by decide)) hx.passes rfl (zaa (zav c_law_cell_at (hr.mono (by decide)) hx.passes rfl (zaa (pvr 0) (zaa zak zaf))) (zaa zak zaf))))
   (zae (zbq (i:=2) sc_law.nd rfl (Or.inl rfl) zak)
   (zae (ze2 (zby (zgz hr.units) (za7 zdh (pvr 1) zak) zak (zcx _)) (zah (zbq (i:=2) sc_law.nd rfl (Or.inl rfl) zak)) zbj)
   (zae (zbq (i:=1) sc_law.nd rfl (Or.inl rfl) (za7 zg8 (pvr 1) zak))
   (zae (zbq (i:=3) sc_law.nd rfl (Or.inl rfl) (zit (zaa (za7 zcc zak (za7 zdh (pvr 1) (pvr 2))) (zaa (za7 zcc zak (za7 zdh (za7 zg8 (pvr 1) zak) (pvr 2))) (zaa (za7 zcc zak (za7 zdh (za7 zg8 (pvr 1) zak) (pvr 2))) zaf)))))
   (zae (zbq (i:=4) sc_law.nd rfl (Or.inl rfl) (zp8 n_Layout (hr.mono (by decide)) hx.passes rfl (zaa (zdb zbk (pvr 3) zak (λ_ _=>rfl)) (zaa (zdb zbk (pvr 3) zak (λ_ _=>rfl)) (zaa (zdb zbk (pvr 3) zak (λ_ _=>rfl)) (zaa (za7 zcc zak (za7 zdh (za7 zg8 (pvr 1) zak) zak)) zaf))))))
   (zae (zbq (i:=5) sc_law.nd rfl (Or.inr rfl) (zbz (pvr 4) T.c_Layout m_Layout_plank (hr.mono (by decide)) hx.passes))
   (zae (ztm (i:=6) (tn:=["k"]) (cn:=["plank"]) (cap:=[5]) (zlz (outer:=zab zrs) (N:=["script","number","most","sizes","layout","plank","rows","state","block","at","hold","cell"]) rfl rfl (by decide +kernel)) rfl sc_law.nd rfl rfl (zcr rfl T.b_range (zaa (zbz (pvr 5) T.c_Plank m_Plank_blocks (hr.mono (by decide)) hx.passes) zaf)) (λ_ _ _ _ _ _=>(zb3 (i:=0) (show(["k","plank"]:List Str).Nodup from by decide +kernel) rfl (Or.inl rfl))) (λ_ _ _ _ _ _=>zki) (λ_ _ _ _ _ _=>(za7 zha (zit (zaa zh3 zaf)) (zbz (pvr 1) T.c_Plank m_Plank_cells (hr.mono (by decide)) ztn))))
   (zae (zfr (zav c_law_laid (hr.mono (by decide)) hx.passes rfl (zaa (pvr 4) (zaa (pvr 6) (zaa (pvr 0) zaf)))))
   (zae (zbq (i:=7) sc_law.nd rfl (Or.inl rfl) (zaee (zp7 zcy zya (zp7 zcy (pvr 6) (zp7 zcy (zit zaf) (zp7 zcy (zch zdk rfl T.b_len (by rfl) (zaa (pvr 6) zaf)) zaec)))) rfl rfl (by simp) (by simp)))
   (zae (zgx hx.po rfl (zcr rfl T.b_range (zaa (zch zdk rfl T.b_len (by rfl) (zaa (pvr 6) zaf)) zaf)) (zb3 (i:=8) sc_law.nd rfl (Or.inl rfl)) (zae (zfr (za1 (pvr 5) T.c_Plank m_Plank_write (hr.mono (by decide)) hx.passes (zaa (pvr 8) (zaa (zf0 zjv rfl T.b_list (by rfl) (zaa (zdb zbk (pvr 6) (pvr 8) (λ_ _=>rfl)) zaf)) zaf))))
   (zah (zgx hx.po rfl (zcr rfl T.b_range (zaa (zch zdk rfl T.b_len (by rfl) (zaa (zdb zbk (pvr 6) (pvr 8) (λ_ _=>rfl)) zaf)) zaf)) (zb3 (i:=9) sc_law.nd rfl (Or.inl rfl)) (zah (zkh (ze8 hr) (zdv (ze8 hr) (pvr 7) zcy (λ_ _=>rfl)) (zgy (zaa (pvr 8) (zaa (pvr 9) zaf))) (zdb zbk (zdb zbk (pvr 6) (pvr 8) (λ_ _=>rfl)) (pvr 9) (λ_ _=>rfl)) rfl))))))
   (zae (zbq (i:=10) sc_law.nd rfl (Or.inl rfl) (zp8 n_Hold (hr.mono (by decide)) hx.passes rfl (zaa (pvr 5) zaf)))
   (zae (ze2 (zqe (ztf (zav c_law_all_right (hr.mono (by decide)) hx.passes rfl (zaa (pvr 4) (zaa (pvr 10) (zaa (zdv (ze8 hr) (pvr 7) zcy (λ_ _=>rfl)) (zaa (za7 zg8 (pvr 1) zak) zaf))))) (λ_=>rfl))) (zah (zax zrt)) zbj)
   (zae (zgx hx.po rfl (zop (zx3 zadl (pvr 0) zz7 (zz8 zak))) (zb3 (i:=11) sc_law.nd rfl (Or.inl rfl)) (zae (ze2 (zby (zgz hr.units) (za7 zdh (zav c_law_mill (hr.mono (by decide)) hx.passes rfl (zaa (pvr 11) (zaa zak zaf))) zak) zak (zcx _)) (zah (zfr (zav c_law_write (hr.mono (by decide)) hx.passes rfl (zaa (pvr 10) (zaa (pvr 7) (zaa (za7 zdh (zav c_law_mill (hr.mono (by decide)) hx.passes rfl (zaa (pvr 11) (zaa zak zaf))) (zch zdk rfl T.b_len (by rfl) (zaa (pvr 6) zaf))) zaf)))))) (zah (zfr (zav c_law_change (hr.mono (by decide)) hx.passes rfl (zaa (pvr 4) (zaa (pvr 10) (zaa (pvr 7) (zaa (pvr 11) zaf))))))))
   (zah (ze2 (zqe (ztf (zav c_law_all_right (hr.mono (by decide)) hx.passes rfl (zaa (pvr 4) (zaa (pvr 10) (zaa (zdv (ze8 hr) (pvr 7) zcy (λ_ _=>rfl)) (zaa (zav c_law_mill (hr.mono (by decide)) hx.passes rfl (zaa (pvr 11) (zaa zak zaf))) zaf))))) (λ_=>rfl))) (zah (zax zrt)) zbj))))
   (zah (zax (zav c_law_left (hr.mono (by decide)) hx.passes rfl (zaa (pvr 10) (zaa (pvr 5) (zaa (pvr 7) zaf)))))))))))))))))))),R vs H Q E h⟩
end
end L2
set_option linter.all false
set_option maxRecDepth 100000
set_option maxHeartbeats 4000000
namespace L2
open PySem PySem.Spec PyProof.Rows
theorem zai3(q8u q8v q8w q8x q8y q8z q90 q91 q92 q93 q94 q95 q96:Addr):∃ a:Ad,a "HoldError"=q8u/\a "NoBlock"=q8v/\a "NoChange"=q8w/\a "NoRoom"=q8x/\a "NoName"=q8y/\a "Twice"=q8z/\a "NoPiece"=q90/\a "NotSound"=q91/\a "NoRow"=q92/\a "Change"=q93/\a "Hold"=q94/\a "Plank"=q95/\a "Layout"=q96 :=
 ⟨λs=>if s="HoldError" then q8u else if s="NoBlock" then q8v else if s="NoChange" then q8w else if s="NoRoom" then q8x else if s="NoName" then q8y else if s="Twice" then q8z else if s="NoPiece" then q90 else if s="NotSound" then q91 else if s="NoRow" then q92 else if s="Change" then q93 else if s="Hold" then q94 else if s="Plank" then q95 else if s="Layout" then q96 else 0,by simp,by simp,by simp,by simp,by simp,by simp,by simp,by simp,by simp,by simp,by simp,by simp,by simp⟩
theorem us1{α :Type}{P:List α ->Prop}(h:∀ x0,P [x0]):∀ us:List α,us.length=1->P us
 | [],e=>by simp at e
 | [x0],_=>h x0
 | _::_::_,e=>by simp at e
theorem us2{α :Type}{P:List α ->Prop}(h:∀ x0 q8i,P [x0,q8i]):∀ us:List α,us.length=2->P us
 | [],e=>by simp at e
 | [_],e=>by simp at e
 | [x0,q8i],_=>h x0 q8i
 | _::_::_::_,e=>by simp at e
theorem us3{α :Type}{P:List α ->Prop}(h:∀ x0 q8i q8l,P [x0,q8i,q8l]):∀ us:List α,us.length=3->P us
 | [],e=>by simp at e
 | [_],e=>by simp at e
 | [_,_],e=>by simp at e
 | [x0,q8i,q8l],_=>h x0 q8i q8l
 | _::_::_::_::_,e=>by simp at e
theorem us4{α :Type}{P:List α ->Prop}(h:∀ x0 q8i q8l q8m,P [x0,q8i,q8l,q8m]):∀ us:List α,us.length=4->P us
 | [],e=>by simp at e
 | [_],e=>by simp at e
 | [_,_],e=>by simp at e
 | [_,_,_],e=>by simp at e
 | [x0,q8i,q8l,q8m],_=>h x0 q8i q8l q8m
 | _::_::_::_::_::_,e=>by simp at e
theorem us5{α :Type}{P:List α ->Prop}(h:∀ x0 q8i q8l q8m q8n,P [x0,q8i,q8l,q8m,q8n]):∀ us:List α,us.length=5->P us
 | [],e=>by simp at e
 | [_],e=>by simp at e
 | [_,_],e=>by simp at e
 | [_,_,_],e=>by simp at e
 | [_,_,_,_],e=>by simp at e
 | [x0,q8i,q8l,q8m,q8n],_=>h x0 q8i q8l q8m q8n
 | _::_::_::_::_::_::_,e=>by simp at e
def spL(K:PySem.W.Frag):Sp:=λvs H Q _=>∃ (s:Addr) (ns:List Int),vs=[.ref s]/\SqL K H s (ns.map V.int)/\ns.length<=63/\∀ H',Q (.bl true) H'
theorem all_mk{l:PySem.W.OpenLaw}{w:World}{K:PySem.W.Frag}{h:Heap}{mg:Str->Option Value}{fa:Addr}{q8u q8v q8w q8x q8y q8z q90 q91 q92 q93 q94 q95 q96:Addr}{q97 q98 q99 q9a q9b q9c q9d q9e q9f q9g q9h q9i q9j q9k q9l q9m q9n q9o q9p q9q q9r q9s q9t q9u q9v q9w q9x q9y q9z qa0 qa1 qa2 qa3 qa4 qa5 qa6 qa7 qa8 qa9 qaa qab qac qad qae qaf qag qah qai qaj:Addr}{qak qbx qda qen qg0 qhd:Value}{qiq qk3:Option Addr}{qlg:Array (Option Value)}{qal qby qdb qeo qg1 qhe:Value}{qir qk4:Option Addr}{qlh:Array (Option Value)}{qam qbz qdc qep qg2 qhf:Value}{qis qk5:Option Addr}{qli:Array (Option Value)}{qan qc0 qdd qeq qg3 qhg:Value}{qit qk6:Option Addr}{qlj:Array (Option Value)}{qao qc1 qde qer qg4 qhh:Value}{qiu qk7:Option Addr}{qlk:Array (Option Value)}{qap qc2 qdf qes qg5 qhi:Value}{qiv qk8:Option Addr}{qll:Array (Option Value)}{qaq qc3 qdg qet qg6 qhj:Value}{qiw qk9:Option Addr}{qlm:Array (Option Value)}{qar qc4 qdh qeu qg7 qhk:Value}{qix qka:Option Addr}{qln:Array (Option Value)}{qas qc5 qdi qev qg8 qhl:Value}{qiy qkb:Option Addr}{qlo:Array (Option Value)}{qat qc6 qdj qew qg9 qhm:Value}{qiz qkc:Option Addr}{qlp:Array (Option Value)}{qau qc7 qdk qex qga qhn:Value}{qj0 qkd:Option Addr}{qlq:Array (Option Value)}{qav qc8 qdl qey qgb qho:Value}{qj1 qke:Option Addr}{qlr:Array (Option Value)}{qaw qc9 qdm qez qgc qhp:Value}{qj2 qkf:Option Addr}{qls:Array (Option Value)}{qax qca qdn qf0 qgd qhq:Value}{qj3 qkg:Option Addr}{qlt:Array (Option Value)}{qay qcb qdo qf1 qge qhr:Value}{qj4 qkh:Option Addr}{qlu:Array (Option Value)}{qaz qcc qdp qf2 qgf qhs:Value}{qj5 qki:Option Addr}{qlv:Array (Option Value)}{qb0 qcd qdq qf3 qgg qht:Value}{qj6 qkj:Option Addr}{qlw:Array (Option Value)}{qb1 qce qdr qf4 qgh qhu:Value}{qj7 qkk:Option Addr}{qlx:Array (Option Value)}{qb2 qcf qds qf5 qgi qhv:Value}{qj8 qkl:Option Addr}{qly:Array (Option Value)}{qb3 qcg qdt qf6 qgj qhw:Value}{qj9 qkm:Option Addr}{qlz:Array (Option Value)}{qb4 qch qdu qf7 qgk qhx:Value}{qja qkn:Option Addr}{qm0:Array (Option Value)}{qb5 qci qdv qf8 qgl qhy:Value}{qjb qko:Option Addr}{qm1:Array (Option Value)}{qb6 qcj qdw qf9 qgm qhz:Value}{qjc qkp:Option Addr}{qm2:Array (Option Value)}{qb7 qck qdx qfa qgn qi0:Value}{qjd qkq:Option Addr}{qm3:Array (Option Value)}{qb8 qcl qdy qfb qgo qi1:Value}{qje qkr:Option Addr}{qm4:Array (Option Value)}{qb9 qcm qdz qfc qgp qi2:Value}{qjf qks:Option Addr}{qm5:Array (Option Value)}{qba qcn qe0 qfd qgq qi3:Value}{qjg qkt:Option Addr}{qm6:Array (Option Value)}{qbb qco qe1 qfe qgr qi4:Value}{qjh qku:Option Addr}{qm7:Array (Option Value)}{qbc qcp qe2 qff qgs qi5:Value}{qji qkv:Option Addr}{qm8:Array (Option Value)}{qbd qcq qe3 qfg qgt qi6:Value}{qjj qkw:Option Addr}{qm9:Array (Option Value)}{qbe qcr qe4 qfh qgu qi7:Value}{qjk qkx:Option Addr}{qma:Array (Option Value)}{qbf qcs qe5 qfi qgv qi8:Value}{qjl qky:Option Addr}{qmb:Array (Option Value)}{qbg qct qe6 qfj qgw qi9:Value}{qjm qkz:Option Addr}{qmc:Array (Option Value)}{qbh qcu qe7 qfk qgx qia:Value}{qjn ql0:Option Addr}{qmd:Array (Option Value)}{qbi qcv qe8 qfl qgy qib:Value}{qjo ql1:Option Addr}{qme:Array (Option Value)}{qbj qcw qe9 qfm qgz qic:Value}{qjp ql2:Option Addr}{qmf:Array (Option Value)}{qbk qcx qea qfn qh0 qid:Value}{qjq ql3:Option Addr}{qmg:Array (Option Value)}{qbl qcy qeb qfo qh1 qie:Value}{qjr ql4:Option Addr}{qmh:Array (Option Value)}{qbm qcz qec qfp qh2 qif:Value}{qjs ql5:Option Addr}{qmi:Array (Option Value)}{qbn qd0 qed qfq qh3 qig:Value}{qjt ql6:Option Addr}{qmj:Array (Option Value)}{qbo qd1 qee qfr qh4 qih:Value}{qju ql7:Option Addr}{qmk:Array (Option Value)}{qbp qd2 qef qfs qh5 qii:Value}{qjv ql8:Option Addr}{qml:Array (Option Value)}{qbq qd3 qeg qft qh6 qij:Value}{qjw ql9:Option Addr}{qmm:Array (Option Value)}{qbr qd4 qeh qfu qh7 qik:Value}{qjx qla:Option Addr}{qmn:Array (Option Value)}{qbs qd5 qei qfv qh8 qil:Value}{qjy qlb:Option Addr}{qmo:Array (Option Value)}{qbt qd6 qej qfw qh9 qim:Value}{qjz qlc:Option Addr}{qmp:Array (Option Value)}{qbu qd7 qek qfx qha qin:Value}{qk0 qld:Option Addr}{qmq:Array (Option Value)}{qbv qd8 qel qfy qhb qio:Value}{qk1 qle:Option Addr}{qmr:Array (Option Value)}{qbw qd9 qem qfz qhc qip:Value}{qk2 qlf:Option Addr}{qms:Array (Option Value)}(X:K.In h)(G:h.Ns mainGlobals mg)(hfa:mg "law"=some (.ref fa))
  (q0:PySem.W.nsIn K mainGlobals "HoldError"=some (some (.ref q8u)))
  (q1:PySem.W.nsIn K mainGlobals "NoBlock"=some (some (.ref q8v)))
  (q2:PySem.W.nsIn K mainGlobals "NoChange"=some (some (.ref q8w)))
  (q3:PySem.W.nsIn K mainGlobals "NoRoom"=some (some (.ref q8x)))
  (q4:PySem.W.nsIn K mainGlobals "NoName"=some (some (.ref q8y)))
  (q5:PySem.W.nsIn K mainGlobals "Twice"=some (some (.ref q8z)))
  (q6:PySem.W.nsIn K mainGlobals "NoPiece"=some (some (.ref q90)))
  (q7:PySem.W.nsIn K mainGlobals "NotSound"=some (some (.ref q91)))
  (q8:PySem.W.nsIn K mainGlobals "NoRow"=some (some (.ref q92)))
  (q9:PySem.W.nsIn K mainGlobals "Change"=some (some (.ref q93)))
  (qa:PySem.W.nsIn K mainGlobals "Hold"=some (some (.ref q94)))
  (qb:PySem.W.nsIn K mainGlobals "Plank"=some (some (.ref q95)))
  (qc:PySem.W.nsIn K mainGlobals "Layout"=some (some (.ref q96)))
  (qd:PySem.W.plainGet K q93 Str.empty=true)
  (qe:PySem.W.hasDictIn K q93=true)
  (qf:PySem.W.plainOver K q93=true)
  (qg:PySem.W.findIn K (.ref q93) "__setattr__"=some (some (.builtin "object.__setattr__")))
  (qh:PySem.W.plainGet K q94 Str.empty=true)
  (qi:PySem.W.hasDictIn K q94=true)
  (qj:PySem.W.plainOver K q94=true)
  (qk:PySem.W.findIn K (.ref q94) "__setattr__"=some (some (.builtin "object.__setattr__")))
  (ql:PySem.W.plainGet K q96 Str.empty=true)
  (qm:PySem.W.hasDictIn K q96=true)
  (qn:PySem.W.plainOver K q96=true)
  (qo:PySem.W.findIn K (.ref q96) "__setattr__"=some (some (.builtin "object.__setattr__")))
  (qp:PySem.W.plainGet K q95 Str.empty=true)
  (qq:PySem.W.hasDictIn K q95=true)
  (qr:PySem.W.plainOver K q95=true)
  (qs:PySem.W.findIn K (.ref q95) "__setattr__"=some (some (.builtin "object.__setattr__")))
  (qt:PySem.W.makesIn K q93=true)
  (qu:PySem.W.keepIn K (.ref q93)=true)
  (qv:PySem.W.makesIn K q94=true)
  (qw:PySem.W.keepIn K (.ref q94)=true)
  (qx:PySem.W.makesIn K q96=true)
  (qy:PySem.W.keepIn K (.ref q96)=true)
  (qz:PySem.W.makesIn K q95=true)
  (q10:PySem.W.keepIn K (.ref q95)=true)
  (q11:PySem.W.excIn K q8u [.type "ValueError",.type "Exception",.type "BaseException",.type "object"] "ValueError.__new__"=true)
  (q12:PySem.W.excIn K q8v [.type "ValueError",.type "Exception",.type "BaseException",.type "object"] "ValueError.__new__"=true)
  (q13:PySem.W.excIn K q8w [.type "ValueError",.type "Exception",.type "BaseException",.type "object"] "ValueError.__new__"=true)
  (q14:PySem.W.excIn K q8y [.type "ValueError",.type "Exception",.type "BaseException",.type "object"] "ValueError.__new__"=true)
  (q15:PySem.W.excIn K q90 [.type "ValueError",.type "Exception",.type "BaseException",.type "object"] "ValueError.__new__"=true)
  (q16:PySem.W.excIn K q8x [.type "ValueError",.type "Exception",.type "BaseException",.type "object"] "ValueError.__new__"=true)
  (q17:PySem.W.excIn K q92 [.type "ValueError",.type "Exception",.type "BaseException",.type "object"] "ValueError.__new__"=true)
  (q18:PySem.W.excIn K q91 [.type "ValueError",.type "Exception",.type "BaseException",.type "object"] "ValueError.__new__"=true)
  (q19:PySem.W.excIn K q8z [.type "ValueError",.type "Exception",.type "BaseException",.type "object"] "ValueError.__new__"=true)
  (q1a:PySem.W.nsIn K mainGlobals "ValueError"=some none)
  (q1b:PySem.W.nsIn K mainGlobals "bool"=some none)
  (q1c:PySem.W.nsIn K mainGlobals "dict"=some none)
  (q1d:PySem.W.nsIn K mainGlobals "enumerate"=some none)
  (q1e:PySem.W.nsIn K mainGlobals "int"=some none)
  (q1f:PySem.W.nsIn K mainGlobals "isinstance"=some none)
  (q1g:PySem.W.nsIn K mainGlobals "len"=some none)
  (q1h:PySem.W.nsIn K mainGlobals "list"=some none)
  (q1i:PySem.W.nsIn K mainGlobals "range"=some none)
  (q1j:PySem.W.nsIn K mainGlobals "set"=some none)
  (q1k:PySem.W.nsIn K mainGlobals "sorted"=some none)
  (q1l:PySem.W.nsIn K mainGlobals "tuple"=some none)
  (q1m:PySem.W.findIn K (.ref q93) "__init__"=some (some (.ref q97)))
  (q1n:PySem.W.isFn K (.ref q97)=true)
  (q1o:K.lookup q97=some ⟨qak,qiq,.func (PySem.W.fnOf "__init__" "Change.__init__" (zar zdx) (zap zdx) (zab zdx) .none qbx qda qen qk3 qg0 qhd),qlg⟩)
  (q1p:PySem.W.codeIn K qg0 "Change.__init__"=true)
  (q1q:PySem.W.keepIn K (.ref q97)=true)
  (q1r:PySem.W.findIn K (.ref q94) "waiting"=some (some (.ref q98)))
  (q1s:PySem.W.isFn K (.ref q98)=true)
  (q1t:K.lookup q98=some ⟨qal,qir,.func (PySem.W.fnOf "waiting" "Book.waiting" (zar zcq) (zap zcq) (zab zcq) .none qby qdb qeo qk4 qg1 qhe),qlh⟩)
  (q1u:PySem.W.codeIn K qg1 "Book.waiting"=true)
  (q1v:PySem.W.keepIn K (.ref q98)=true)
  (q1w:PySem.W.findIn K (.ref q94) "ask_for_changes"=some (some (.ref q99)))
  (q1x:PySem.W.isFn K (.ref q99)=true)
  (q1y:K.lookup q99=some ⟨qam,qis,.func (PySem.W.fnOf "ask_for_changes" "Book.ask_for_changes" (zar za8) (zap za8) (zab za8) .none qbz qdc qep qk5 qg2 qhf),qli⟩)
  (q1z:PySem.W.codeIn K qg2 "Book.ask_for_changes"=true)
  (q20:PySem.W.keepIn K (.ref q99)=true)
  (q21:PySem.W.nsIn K mainGlobals "needs_with"=some (some (.ref q9a)))
  (q22:K.lookup q9a=some ⟨qan,qit,.func (PySem.W.fnOf "needs_with" "needs_with" (zar zet) (zap zet) (zab zet) .none qc0 qdd qeq qk6 qg3 qhg),qlj⟩)
  (q23:PySem.W.codeIn K qg3 "needs_with"=true)
  (q24:PySem.W.keepIn K (.ref q9a)=true)
  (q25:PySem.W.findIn K (.ref q94) "lack_of"=some (some (.ref q9b)))
  (q26:PySem.W.isFn K (.ref q9b)=true)
  (q27:K.lookup q9b=some ⟨qao,qiu,.func (PySem.W.fnOf "lack_of" "Hold.lack_of" (zar zdc) (zap zdc) (zab zdc) .none qc1 qde qer qk7 qg4 qhh),qlk⟩)
  (q28:PySem.W.codeIn K qg4 "Hold.lack_of"=true)
  (q29:PySem.W.keepIn K (.ref q9b)=true)
  (q2a:PySem.W.findIn K (.ref q94) "laid_over"=some (some (.ref q9c)))
  (q2b:PySem.W.isFn K (.ref q9c)=true)
  (q2c:K.lookup q9c=some ⟨qap,qiv,.func (PySem.W.fnOf "laid_over" "Hold.laid_over" (zar zcd) (zap zcd) (zab zcd) .none qc2 qdf qes qk8 qg5 qhi),qll⟩)
  (q2d:PySem.W.codeIn K qg5 "Hold.laid_over"=true)
  (q2e:PySem.W.keepIn K (.ref q9c)=true)
  (q2f:PySem.W.findIn K (.ref q95) "__init__"=some (some (.ref q9d)))
  (q2g:PySem.W.isFn K (.ref q9d)=true)
  (q2h:K.lookup q9d=some ⟨qaq,qiw,.func (PySem.W.fnOf "__init__" "Plank.__init__" (zar zdq) (zap zdq) (zab zdq) .none qc3 qdg qet qk9 qg6 qhj),qlm⟩)
  (q2i:PySem.W.codeIn K qg6 "Plank.__init__"=true)
  (q2j:PySem.W.keepIn K (.ref q9d)=true)
  (q2k:PySem.W.findIn K (.ref q95) "blocks"=some (some (.ref q9e)))
  (q2l:PySem.W.isFn K (.ref q9e)=true)
  (q2m:K.lookup q9e=some ⟨qar,qix,.func (PySem.W.fnOf "blocks" "Plank.blocks" (zar zdd) (zap zdd) (zab zdd) .none qc4 qdh qeu qka qg7 qhk),qln⟩)
  (q2n:PySem.W.codeIn K qg7 "Plank.blocks"=true)
  (q2o:PySem.W.keepIn K (.ref q9e)=true)
  (q2p:PySem.W.findIn K (.ref q95) "cells"=some (some (.ref q9f)))
  (q2q:PySem.W.isFn K (.ref q9f)=true)
  (q2r:K.lookup q9f=some ⟨qas,qiy,.func (PySem.W.fnOf "cells" "Plank.cells" (zar zdy) (zap zdy) (zab zdy) .none qc5 qdi qev qkb qg8 qhl),qlo⟩)
  (q2s:PySem.W.codeIn K qg8 "Plank.cells"=true)
  (q2t:PySem.W.keepIn K (.ref q9f)=true)
  (q2u:PySem.W.findIn K (.ref q95) "writings"=some (some (.ref q9g)))
  (q2v:PySem.W.isFn K (.ref q9g)=true)
  (q2w:K.lookup q9g=some ⟨qat,qiz,.func (PySem.W.fnOf "writings" "Plank.writings" (zar zce) (zap zce) (zab zce) .none qc6 qdj qew qkc qg9 qhm),qlp⟩)
  (q2x:PySem.W.codeIn K qg9 "Plank.writings"=true)
  (q2y:PySem.W.keepIn K (.ref q9g)=true)
  (q2z:PySem.W.findIn K (.ref q95) "ask_for_block"=some (some (.ref q9h)))
  (q30:PySem.W.isFn K (.ref q9h)=true)
  (q31:K.lookup q9h=some ⟨qau,qj0,.func (PySem.W.fnOf "ask_for_block" "Plank.ask_for_block" (zar zbc) (zap zbc) (zab zbc) .none qc7 qdk qex qkd qga qhn),qlq⟩)
  (q32:PySem.W.codeIn K qga "Plank.ask_for_block"=true)
  (q33:PySem.W.keepIn K (.ref q9h)=true)
  (q34:PySem.W.findIn K (.ref q96) "__init__"=some (some (.ref q9i)))
  (q35:PySem.W.isFn K (.ref q9i)=true)
  (q36:K.lookup q9i=some ⟨qav,qj1,.func (PySem.W.fnOf "__init__" "Layout.__init__" (zar zdz) (zap zdz) (zab zdz) .none qc8 qdl qey qke qgb qho),qlr⟩)
  (q37:PySem.W.codeIn K qgb "Layout.__init__"=true)
  (q38:PySem.W.keepIn K (.ref q9i)=true)
  (q39:PySem.W.findIn K (.ref q96) "counts"=some (some (.ref q9j)))
  (q3a:PySem.W.isFn K (.ref q9j)=true)
  (q3b:K.lookup q9j=some ⟨qaw,qj2,.func (PySem.W.fnOf "counts" "Layout.counts" (zar zct) (zap zct) (zab zct) .none qc9 qdm qez qkf qgc qhp),qls⟩)
  (q3c:PySem.W.codeIn K qgc "Layout.counts"=true)
  (q3d:PySem.W.keepIn K (.ref q9j)=true)
  (q3e:PySem.W.findIn K (.ref q96) "blocks_ahead_of_marks"=some (some (.ref q9k)))
  (q3f:PySem.W.isFn K (.ref q9k)=true)
  (q3g:K.lookup q9k=some ⟨qax,qj3,.func (PySem.W.fnOf "blocks_ahead_of_marks" "Layout.blocks_ahead_of_marks" (zar zas) (zap zas) (zab zas) .none qca qdn qf0 qkg qgd qhq),qlt⟩)
  (q3h:PySem.W.codeIn K qgd "Layout.blocks_ahead_of_marks"=true)
  (q3i:PySem.W.keepIn K (.ref q9k)=true)
  (q3j:PySem.W.findIn K (.ref q96) "place_from"=some (some (.ref q9l)))
  (q3k:PySem.W.isFn K (.ref q9l)=true)
  (q3l:K.lookup q9l=some ⟨qay,qj4,.func (PySem.W.fnOf "place_from" "Layout.place_from" (zar zbo) (zap zbo) (zab zbo) .none qcb qdo qf1 qkh qge qhr),qlu⟩)
  (q3m:PySem.W.codeIn K qge "Layout.place_from"=true)
  (q3n:PySem.W.keepIn K (.ref q9l)=true)
  (q3o:PySem.W.nsIn K mainGlobals "_law_cell_at"=some (some (.ref q9m)))
  (q3p:K.lookup q9m=some ⟨qaz,qj5,.func (PySem.W.fnOf "_law_cell_at" "_law_cell_at" (zar zd0) (zap zd0) (zab zd0) .none qcc qdp qf2 qki qgf qhs),qlv⟩)
  (q3q:PySem.W.codeIn K qgf "_law_cell_at"=true)
  (q3r:PySem.W.keepIn K (.ref q9m)=true)
  (q3s:PySem.W.nsIn K mainGlobals "_law_mill"=some (some (.ref q9n)))
  (q3t:K.lookup q9n=some ⟨qb0,qj6,.func (PySem.W.fnOf "_law_mill" "_law_mill" (zar zgj) (zap zgj) (zab zgj) .none qcd qdq qf3 qkj qgg qht),qlw⟩)
  (q3u:PySem.W.codeIn K qgg "_law_mill"=true)
  (q3v:PySem.W.keepIn K (.ref q9n)=true)
  (q3w:PySem.W.nsIn K mainGlobals "_law_freed"=some (some (.ref q9o)))
  (q3x:K.lookup q9o=some ⟨qb1,qj7,.func (PySem.W.fnOf "_law_freed" "_law_freed" (zar zfs) (zap zfs) (zab zfs) .none qce qdr qf4 qkk qgh qhu),qlx⟩)
  (q3y:PySem.W.codeIn K qgh "_law_freed"=true)
  (q3z:PySem.W.keepIn K (.ref q9o)=true)
  (q40:PySem.W.findIn K (.ref q94) "__init__"=some (some (.ref q9p)))
  (q41:PySem.W.isFn K (.ref q9p)=true)
  (q42:K.lookup q9p=some ⟨qb2,qj8,.func (PySem.W.fnOf "__init__" "Book.__init__" (zar zeu) (zap zeu) (zab zeu) .none qcf qds qf5 qkl qgi qhv),qly⟩)
  (q43:PySem.W.codeIn K qgi "Book.__init__"=true)
  (q44:PySem.W.keepIn K (.ref q9p)=true)
  (q45:PySem.W.findIn K (.ref q94) "ask_for_place"=some (some (.ref q9q)))
  (q46:PySem.W.isFn K (.ref q9q)=true)
  (q47:K.lookup q9q=some ⟨qb3,qj9,.func (PySem.W.fnOf "ask_for_place" "Book.ask_for_place" (zar zbg) (zap zbg) (zab zbg) .none qcg qdt qf6 qkm qgj qhw),qlz⟩)
  (q48:PySem.W.codeIn K qgj "Book.ask_for_place"=true)
  (q49:PySem.W.keepIn K (.ref q9q)=true)
  (q4a:PySem.W.findIn K (.ref q94) "outcome"=some (some (.ref q9r)))
  (q4b:PySem.W.isFn K (.ref q9r)=true)
  (q4c:K.lookup q9r=some ⟨qb4,qja,.func (PySem.W.fnOf "outcome" "Hold.outcome" (zar zde) (zap zde) (zab zde) .none qch qdu qf7 qkn qgk qhx),qm0⟩)
  (q4d:PySem.W.codeIn K qgk "Hold.outcome"=true)
  (q4e:PySem.W.keepIn K (.ref q9r)=true)
  (q4f:PySem.W.findIn K (.ref q95) "read"=some (some (.ref q9s)))
  (q4g:PySem.W.isFn K (.ref q9s)=true)
  (q4h:K.lookup q9s=some ⟨qb5,qjb,.func (PySem.W.fnOf "read" "Plank.read" (zar zev) (zap zev) (zab zev) .none qci qdv qf8 qko qgl qhy),qm1⟩)
  (q4i:PySem.W.codeIn K qgl "Plank.read"=true)
  (q4j:PySem.W.keepIn K (.ref q9s)=true)
  (q4k:PySem.W.findIn K (.ref q95) "write"=some (some (.ref q9t)))
  (q4l:PySem.W.isFn K (.ref q9t)=true)
  (q4m:K.lookup q9t=some ⟨qb6,qjc,.func (PySem.W.fnOf "write" "Plank.write" (zar zd1) (zap zd1) (zab zd1) .none qcj qdw qf9 qkp qgm qhz),qm2⟩)
  (q4n:PySem.W.codeIn K qgm "Plank.write"=true)
  (q4o:PySem.W.keepIn K (.ref q9t)=true)
  (q4p:PySem.W.findIn K (.ref q96) "name_at"=some (some (.ref q9u)))
  (q4q:PySem.W.isFn K (.ref q9u)=true)
  (q4r:K.lookup q9u=some ⟨qb7,qjd,.func (PySem.W.fnOf "name_at" "Layout.name_at" (zar zcf) (zap zcf) (zab zcf) .none qck qdx qfa qkq qgn qi0),qm3⟩)
  (q4s:PySem.W.codeIn K qgn "Layout.name_at"=true)
  (q4t:PySem.W.keepIn K (.ref q9u)=true)
  (q4u:PySem.W.findIn K (.ref q96) "record_at"=some (some (.ref q9v)))
  (q4v:PySem.W.isFn K (.ref q9v)=true)
  (q4w:K.lookup q9v=some ⟨qb8,qje,.func (PySem.W.fnOf "record_at" "Layout.record_at" (zar zb0) (zap zb0) (zab zb0) .none qcl qdy qfb qkr qgo qi1),qm4⟩)
  (q4x:PySem.W.codeIn K qgo "Layout.record_at"=true)
  (q4y:PySem.W.keepIn K (.ref q9v)=true)
  (q4z:PySem.W.findIn K (.ref q96) "piece_at"=some (some (.ref q9w)))
  (q50:PySem.W.isFn K (.ref q9w)=true)
  (q51:K.lookup q9w=some ⟨qb9,qjf,.func (PySem.W.fnOf "piece_at" "Layout.piece_at" (zar zb6) (zap zb6) (zab zb6) .none qcm qdz qfc qks qgp qi2),qm5⟩)
  (q52:PySem.W.codeIn K qgp "Layout.piece_at"=true)
  (q53:PySem.W.keepIn K (.ref q9w)=true)
  (q54:PySem.W.findIn K (.ref q96) "record_mark"=some (some (.ref q9x)))
  (q55:PySem.W.isFn K (.ref q9x)=true)
  (q56:K.lookup q9x=some ⟨qba,qjg,.func (PySem.W.fnOf "record_mark" "Layout.record_mark" (zar zbh) (zap zbh) (zab zbh) .none qcn qe0 qfd qkt qgq qi3),qm6⟩)
  (q57:PySem.W.codeIn K qgq "Layout.record_mark"=true)
  (q58:PySem.W.keepIn K (.ref q9x)=true)
  (q59:PySem.W.findIn K (.ref q96) "piece_mark"=some (some (.ref q9y)))
  (q5a:PySem.W.isFn K (.ref q9y)=true)
  (q5b:K.lookup q9y=some ⟨qbb,qjh,.func (PySem.W.fnOf "piece_mark" "Layout.piece_mark" (zar zbp) (zap zbp) (zab zbp) .none qco qe1 qfe qku qgr qi4),qm7⟩)
  (q5c:PySem.W.codeIn K qgr "Layout.piece_mark"=true)
  (q5d:PySem.W.keepIn K (.ref q9y)=true)
  (q5e:PySem.W.findIn K (.ref q96) "blocks"=some (some (.ref q9z)))
  (q5f:PySem.W.isFn K (.ref q9z)=true)
  (q5g:K.lookup q9z=some ⟨qbc,qji,.func (PySem.W.fnOf "blocks" "Layout.blocks" (zar zcu) (zap zcu) (zab zcu) .none qcp qe2 qff qkv qgs qi5),qm8⟩)
  (q5h:PySem.W.codeIn K qgs "Layout.blocks"=true)
  (q5i:PySem.W.keepIn K (.ref q9z)=true)
  (q5j:PySem.W.nsIn K mainGlobals "_law_taken"=some (some (.ref qa0)))
  (q5k:K.lookup qa0=some ⟨qbd,qjj,.func (PySem.W.fnOf "_law_taken" "_law_taken" (zar zft) (zap zft) (zab zft) .none qcq qe3 qfg qkw qgt qi6),qm9⟩)
  (q5l:PySem.W.codeIn K qgt "_law_taken"=true)
  (q5m:PySem.W.keepIn K (.ref qa0)=true)
  (q5n:PySem.W.findIn K (.ref q94) "newest"=some (some (.ref qa1)))
  (q5o:PySem.W.isFn K (.ref qa1)=true)
  (q5p:K.lookup qa1=some ⟨qbe,qjk,.func (PySem.W.fnOf "newest" "Book.newest" (zar zd2) (zap zd2) (zab zd2) .none qcr qe4 qfh qkx qgu qi7),qma⟩)
  (q5q:PySem.W.codeIn K qgu "Book.newest"=true)
  (q5r:PySem.W.keepIn K (.ref qa1)=true)
  (q5s:PySem.W.findIn K (.ref q94) "write"=some (some (.ref qa2)))
  (q5t:PySem.W.isFn K (.ref qa2)=true)
  (q5u:K.lookup qa2=some ⟨qbf,qjl,.func (PySem.W.fnOf "write" "Hold.write" (zar zew) (zap zew) (zab zew) .none qcs qe5 qfi qky qgv qi8),qmb⟩)
  (q5v:PySem.W.codeIn K qgv "Hold.write"=true)
  (q5w:PySem.W.keepIn K (.ref qa2)=true)
  (q5x:PySem.W.findIn K (.ref q96) "plank"=some (some (.ref qa3)))
  (q5y:PySem.W.isFn K (.ref qa3)=true)
  (q5z:K.lookup qa3=some ⟨qbg,qjm,.func (PySem.W.fnOf "plank" "Layout.plank" (zar zdf) (zap zdf) (zab zdf) .none qct qe6 qfj qkz qgw qi9),qmc⟩)
  (q60:PySem.W.codeIn K qgw "Layout.plank"=true)
  (q61:PySem.W.keepIn K (.ref qa3)=true)
  (q62:PySem.W.nsIn K mainGlobals "_law_place"=some (some (.ref qa4)))
  (q63:K.lookup qa4=some ⟨qbh,qjn,.func (PySem.W.fnOf "_law_place" "_law_place" (zar zfu) (zap zfu) (zab zfu) .none qcu qe7 qfk ql0 qgx qia),qmd⟩)
  (q64:PySem.W.codeIn K qgx "_law_place"=true)
  (q65:PySem.W.keepIn K (.ref qa4)=true)
  (q66:PySem.W.findIn K (.ref q94) "change"=some (some (.ref qa5)))
  (q67:PySem.W.isFn K (.ref qa5)=true)
  (q68:K.lookup qa5=some ⟨qbi,qjo,.func (PySem.W.fnOf "change" "Book.change" (zar zd3) (zap zd3) (zab zd3) .none qcv qe8 qfl ql1 qgy qib),qme⟩)
  (q69:PySem.W.codeIn K qgy "Book.change"=true)
  (q6a:PySem.W.keepIn K (.ref qa5)=true)
  (q6b:PySem.W.findIn K (.ref q94) "in_hand"=some (some (.ref qa6)))
  (q6c:PySem.W.isFn K (.ref qa6)=true)
  (q6d:K.lookup qa6=some ⟨qbj,qjp,.func (PySem.W.fnOf "in_hand" "Book.in_hand" (zar zdg) (zap zdg) (zab zdg) .none qcw qe9 qfm ql2 qgz qic),qmf⟩)
  (q6e:PySem.W.codeIn K qgz "Book.in_hand"=true)
  (q6f:PySem.W.keepIn K (.ref qa6)=true)
  (q6g:PySem.W.nsIn K mainGlobals "_law_laid"=some (some (.ref qa7)))
  (q6h:K.lookup qa7=some ⟨qbk,qjq,.func (PySem.W.fnOf "_law_laid" "_law_laid" (zar zgk) (zap zgk) (zab zgk) .none qcx qea qfn ql3 qh0 qid),qmg⟩)
  (q6i:PySem.W.codeIn K qh0 "_law_laid"=true)
  (q6j:PySem.W.keepIn K (.ref qa7)=true)
  (q6k:PySem.W.nsIn K mainGlobals "_law_lowest"=some (some (.ref qa8)))
  (q6l:K.lookup qa8=some ⟨qbl,qjr,.func (PySem.W.fnOf "_law_lowest" "_law_lowest" (zar zex) (zap zex) (zab zex) .none qcy qeb qfo ql4 qh1 qie),qmh⟩)
  (q6m:PySem.W.codeIn K qh1 "_law_lowest"=true)
  (q6n:PySem.W.keepIn K (.ref qa8)=true)
  (q6o:PySem.W.nsIn K mainGlobals "_law_write"=some (some (.ref qa9)))
  (q6p:K.lookup qa9=some ⟨qbm,qjs,.func (PySem.W.fnOf "_law_write" "_law_write" (zar zey) (zap zey) (zab zey) .none qcz qec qfp ql5 qh2 qif),qmi⟩)
  (q6q:PySem.W.codeIn K qh2 "_law_write"=true)
  (q6r:PySem.W.keepIn K (.ref qa9)=true)
  (q6s:PySem.W.nsIn K mainGlobals "lowest_with"=some (some (.ref qaa)))
  (q6t:K.lookup qaa=some ⟨qbn,qjt,.func (PySem.W.fnOf "lowest_with" "lowest_with" (zar zd4) (zap zd4) (zab zd4) .none qd0 qed qfq ql6 qh3 qig),qmj⟩)
  (q6u:PySem.W.codeIn K qh3 "lowest_with"=true)
  (q6v:PySem.W.keepIn K (.ref qaa)=true)
  (q6w:PySem.W.nsIn K mainGlobals "_law_change"=some (some (.ref qab)))
  (q6x:K.lookup qab=some ⟨qbo,qju,.func (PySem.W.fnOf "_law_change" "_law_change" (zar zez) (zap zez) (zab zez) .none qd1 qee qfr ql7 qh4 qih),qmk⟩)
  (q6y:PySem.W.codeIn K qh4 "_law_change"=true)
  (q6z:PySem.W.keepIn K (.ref qab)=true)
  (q70:PySem.W.nsIn K mainGlobals "_law_left"=some (some (.ref qac)))
  (q71:K.lookup qac=some ⟨qbp,qjv,.func (PySem.W.fnOf "_law_left" "_law_left" (zar zfy) (zap zfy) (zab zfy) .none qd2 qef qfs ql8 qh5 qii),qml⟩)
  (q72:PySem.W.codeIn K qh5 "_law_left"=true)
  (q73:PySem.W.keepIn K (.ref qac)=true)
  (q74:PySem.W.nsIn K mainGlobals "free_name"=some (some (.ref qad)))
  (q75:K.lookup qad=some ⟨qbq,qjw,.func (PySem.W.fnOf "free_name" "free_name" (zar ze0) (zap ze0) (zab ze0) .none qd3 qeg qft ql9 qh6 qij),qmm⟩)
  (q76:PySem.W.codeIn K qh6 "free_name"=true)
  (q77:PySem.W.keepIn K (.ref qad)=true)
  (q78:PySem.W.nsIn K mainGlobals "free_record"=some (some (.ref qae)))
  (q79:K.lookup qae=some ⟨qbr,qjx,.func (PySem.W.fnOf "free_record" "free_record" (zar zda) (zap zda) (zab zda) .none qd4 qeh qfu qla qh7 qik),qmn⟩)
  (q7a:PySem.W.codeIn K qh7 "free_record"=true)
  (q7b:PySem.W.keepIn K (.ref qae)=true)
  (q7c:PySem.W.nsIn K mainGlobals "free_piece"=some (some (.ref qaf)))
  (q7d:K.lookup qaf=some ⟨qbs,qjy,.func (PySem.W.fnOf "free_piece" "free_piece" (zar zdr) (zap zdr) (zab zdr) .none qd5 qei qfv qlb qh8 qil),qmo⟩)
  (q7e:PySem.W.codeIn K qh8 "free_piece"=true)
  (q7f:PySem.W.keepIn K (.ref qaf)=true)
  (q7g:PySem.W.nsIn K mainGlobals "_law_ask"=some (some (.ref qag)))
  (q7h:K.lookup qag=some ⟨qbt,qjz,.func (PySem.W.fnOf "_law_ask" "_law_ask" (zar zhh) (zap zhh) (zab zhh) .none qd6 qej qfw qlc qh9 qim),qmp⟩)
  (q7i:PySem.W.codeIn K qh9 "_law_ask"=true)
  (q7j:PySem.W.keepIn K (.ref qag)=true)
  (q7k:PySem.W.nsIn K mainGlobals "_law_right"=some (some (.ref qah)))
  (q7l:K.lookup qah=some ⟨qbu,qk0,.func (PySem.W.fnOf "_law_right" "_law_right" (zar zfv) (zap zfv) (zab zfv) .none qd7 qek qfx qld qha qin),qmq⟩)
  (q7m:PySem.W.codeIn K qha "_law_right"=true)
  (q7n:PySem.W.keepIn K (.ref qah)=true)
  (q7o:PySem.W.nsIn K mainGlobals "_law_all_right"=some (some (.ref qai)))
  (q7p:K.lookup qai=some ⟨qbv,qk1,.func (PySem.W.fnOf "_law_all_right" "_law_all_right" (zar zcv) (zap zcv) (zab zcv) .none qd8 qel qfy qle qhb qio),qmr⟩)
  (q7q:PySem.W.codeIn K qhb "_law_all_right"=true)
  (q7r:PySem.W.keepIn K (.ref qai)=true)
  (q7s:PySem.W.nsIn K mainGlobals "law"=some (some (.ref qaj)))
  (q7t:K.lookup qaj=some ⟨qbw,qk2,.func (PySem.W.fnOf "law" "law" (zar zrs) (zap zrs) (zab zrs) .none qd9 qem qfz qlf qhc qip),qms⟩)
  (q7u:PySem.W.codeIn K qhc "law"=true)
  (q7v:PySem.W.keepIn K (.ref qaj)=true)
  (q7w:PySem.W.findIn K (.ref q94) "in_hand"=some (some (.ref qa6)))
  (q7x:PySem.W.findIn K (.ref q94) "newest"=some (some (.ref qa1)))
  (q7y:PySem.W.findIn K (.ref q94) "ask_for_changes"=some (some (.ref q99)))
  (q7z:PySem.W.findIn K (.ref q94) "ask_for_place"=some (some (.ref q9q)))
  (q80:PySem.W.findIn K (.ref q94) "change"=some (some (.ref qa5)))
  (q81:PySem.W.findIn K (.ref q94) "waiting"=some (some (.ref q98)))
  (q82:PySem.W.findIn K (.ref q94) "__init__"=some (some (.ref q9p)))
  (q83:PySem.W.findIn K (.ref q95) "contents"=some none)
  (q84:PySem.W.findIn K (.ref q95) "width"=some none)
  (q85:PySem.W.findIn K (.ref q95) "written"=some none)
  (q86:PySem.W.findIn K (.ref q94) "ground"=some none)
  (q87:PySem.W.findIn K (.ref q94) "made"=some none)
  (q88:PySem.W.findIn K (.ref q94) "made_in"=some none)
  (q89:PySem.W.findIn K (.ref q94) "latest"=some none)
  (q8a:PySem.W.findIn K (.ref q94) "outs"=some none)
  (q8b:PySem.W.findIn K (.ref q93) "place"=some none)
  (q8c:PySem.W.findIn K (.ref q93) "value"=some none)
  (q8d:PySem.W.findIn K (.ref q93) "needs"=some none)
  (q8e:PySem.W.findIn K (.ref q96) "name_blocks"=some none)
  (q8f:PySem.W.findIn K (.ref q96) "record_blocks"=some none)
  (q8g:PySem.W.findIn K (.ref q96) "piece_blocks"=some none)
  (q8h:PySem.W.findIn K (.ref q96) "width"=some none)
  (q8i:PySem.W.findIn K (.ref q8x) "__getattribute__"=some (some (.builtin "BaseException.__getattribute__")))
  (q8j:PySem.W.findIn K (.ref q8x) "__getattr__"=some none)
  (q8k:PySem.W.mroIn K q8x (.type "BaseException")=some true)
  (q8l:PySem.W.isClsIn K q8x=true)
  (q8m:PySem.W.findIn K (.ref q8x) "__class__"=some (some (.builtin "object.__class__")))
  (q8n:PySem.W.specialIn K (.builtin "object.__class__") "__get__"=some (some (.builtin "getset_descriptor.__get__")))
  (q8o:PySem.W.takesIn K (.builtin "object.__class__")=some true)
  (q8p:PySem.W.mroIn K q8x (.type "object")=some true)
  (q8q:PySem.W.exmOne K (.ref q8x) (.ref q8u)=some true)
  (q8r:PySem.W.kitOne K (.ref q8x) (.ref q8x)=some true)
  (q8s:PySem.W.kitOne K (.ref q8x) (.type "ValueError")=some true)
  (q8t:PySem.W.kitAny K (.ref q8x) [.ref q8v,.ref q8w,.ref q8y,.ref q90,.ref q92,.ref q91,.ref q8z]=some false) :
  ∃ fd:FuncData,(∀ (s:Shared) (v:Value),BindsTo s fd ⟨[v],[]⟩ [("script",v)])/\∀ base:Heap,K.In base->base.Ns mainGlobals mg->FnOk l.prog w K mg base (cxE l.prog w) 10 fa fd ["script"] (spL K):=by
 obtain⟨a,rfl,rfl,rfl,rfl,rfl,rfl,rfl,rfl,rfl,rfl,rfl,rfl,rfl⟩:=zai3 q8u q8v q8w q8x q8y q8z q90 q91 q92 q93 q94 q95 q96
 have e:=hfa.symm.trans (PySem.W.mg_of X G q7s)
 cases e
 have T:Txt K mg a:=⟨⟨qd,qe,qf,qg⟩,⟨qh,qi,qj,qk⟩,⟨ql,qm,qn,qo⟩,⟨qp,qq,qr,qs⟩,PySem.W.mg_of X G q0,⟨_,PySem.W.mg_of X G q0,rfl⟩,⟨q11⟩,PySem.W.mg_of X G q1,⟨_,PySem.W.mg_of X G q1,rfl⟩,⟨q12⟩,PySem.W.mg_of X G q2,⟨_,PySem.W.mg_of X G q2,rfl⟩,⟨q13⟩,PySem.W.mg_of X G q4,⟨_,PySem.W.mg_of X G q4,rfl⟩,⟨q14⟩,PySem.W.mg_of X G q6,⟨_,PySem.W.mg_of X G q6,rfl⟩,⟨q15⟩,PySem.W.mg_of X G q3,⟨_,PySem.W.mg_of X G q3,rfl⟩,⟨q16⟩,PySem.W.mg_of X G q8,⟨_,PySem.W.mg_of X G q8,rfl⟩,⟨q17⟩,PySem.W.mg_of X G q7,⟨_,PySem.W.mg_of X G q7,rfl⟩,⟨q18⟩,PySem.W.mg_of X G q5,⟨_,PySem.W.mg_of X G q5,rfl⟩,⟨q19⟩,PySem.W.mg_none_of X G q1a,PySem.W.mg_none_of X G q1b,PySem.W.mg_none_of X G q1c,PySem.W.mg_none_of X G q1d,PySem.W.mg_none_of X G q1e,PySem.W.mg_none_of X G q1f,PySem.W.mg_none_of X G q1g,PySem.W.mg_none_of X G q1h,PySem.W.mg_none_of X G q1i,PySem.W.mg_none_of X G q1j,PySem.W.mg_none_of X G q1k,PySem.W.mg_none_of X G q1l⟩
 have TPk:zc0 K a:=⟨T.c_Plank,q83,q84,q85⟩
 have TBk:zah3 K (a "Hold") (a "Change"):=⟨T.c_Hold,q86,q87,q88,q89,q8a,T.c_Change,q8b,q8c,q8d⟩
 have TLy:TLay K a:=⟨T.c_Layout,q8e,q8f,q8g,q8h⟩
 have TRm:TR K a:=⟨q8q,⟨q8i,q8j,q8k,q8l,q8m,q8n,q8o,q8p⟩,q8r,q8s,q8t⟩
 have qmt:=za9 (st:=zdx) q1o q1p q1q
 have qo6:=qmt.binds (ps:=["self","place","value","needs"]) λ_ _ _ _ _ _=>us4 λ_ _ _ _=>rfl
 have qmu:=za9 (st:=zcq) q1t q1u q1v
 have qo7:=qmu.binds (ps:=["self"]) λ_ _ _ _ _ _=>us1 λ_=>rfl
 have qmv:=za9 (st:=za8) q1y q1z q20
 have qo8:=qmv.binds (ps:=["self","numbers"]) λ_ _ _ _ _ _=>us2 λ_ _=>rfl
 have qmw:=za9 (st:=zet) q22 q23 q24
 have qo9:=qmw.binds (ps:=["needs","ahead"]) λ_ _ _ _ _ _=>us2 λ_ _=>rfl
 have qmx:=za9 (st:=zdc) q27 q28 q29
 have qoa:=qmx.binds (ps:=["self","number","gone"]) λ_ _ _ _ _ _=>us3 λ_ _ _=>rfl
 have qmy:=za9 (st:=zcd) q2c q2d q2e
 have qob:=qmy.binds (ps:=["self","values","block"]) λ_ _ _ _ _ _=>us3 λ_ _ _=>rfl
 have qmz:=za9 (st:=zdq) q2h q2i q2j
 have qoc:=qmz.binds (ps:=["self","blocks","cells"]) λ_ _ _ _ _ _=>us3 λ_ _ _=>rfl
 have qn0:=za9 (st:=zdd) q2m q2n q2o
 have qod:=qn0.binds (ps:=["self"]) λ_ _ _ _ _ _=>us1 λ_=>rfl
 have qn1:=za9 (st:=zdy) q2r q2s q2t
 have qoe:=qn1.binds (ps:=["self"]) λ_ _ _ _ _ _=>us1 λ_=>rfl
 have qn2:=za9 (st:=zce) q2w q2x q2y
 have qof:=qn2.binds (ps:=["self"]) λ_ _ _ _ _ _=>us1 λ_=>rfl
 have qn3:=za9 (st:=zbc) q31 q32 q33
 have qog:=qn3.binds (ps:=["self","block"]) λ_ _ _ _ _ _=>us2 λ_ _=>rfl
 have qn4:=za9 (st:=zdz) q36 q37 q38
 have qoh:=qn4.binds (ps:=["self","names","records","pieces","cells"]) λ_ _ _ _ _ _=>us5 λ_ _ _ _ _=>rfl
 have qn5:=za9 (st:=zct) q3b q3c q3d
 have qoi:=qn5.binds (ps:=["self"]) λ_ _ _ _ _ _=>us1 λ_=>rfl
 have qn6:=za9 (st:=zas) q3g q3h q3i
 have qoj:=qn6.binds (ps:=["self"]) λ_ _ _ _ _ _=>us1 λ_=>rfl
 have qn7:=za9 (st:=zbo) q3l q3m q3n
 have qok:=qn7.binds (ps:=["self","block","k"]) λ_ _ _ _ _ _=>us3 λ_ _ _=>rfl
 have qn8:=za9 (st:=zd0) q3p q3q q3r
 have qol:=qn8.binds (ps:=["script","k"]) λ_ _ _ _ _ _=>us2 λ_ _=>rfl
 have qn9:=za9 (st:=zgj) q3t q3u q3v
 have qom:=qn9.binds (ps:=["cell","turn"]) λ_ _ _ _ _ _=>us2 λ_ _=>rfl
 have qna:=za9 (st:=zfs) q3x q3y q3z
 have qon:=qna.binds (ps:=["kind","number"]) λ_ _ _ _ _ _=>us2 λ_ _=>rfl
 have qnb:=za9 (st:=zeu) q42 q43 q44
 have qoo:=qnb.binds (ps:=["self","plank"]) λ_ _ _ _ _ _=>us2 λ_ _=>rfl
 have qnc:=za9 (st:=zbg) q47 q48 q49
 have qop:=qnc.binds (ps:=["self","place"]) λ_ _ _ _ _ _=>us2 λ_ _=>rfl
 have qnd:=za9 (st:=zde) q4c q4d q4e
 have qoq:=qnd.binds (ps:=["self","block","taken"]) λ_ _ _ _ _ _=>us3 λ_ _ _=>rfl
 have qne:=za9 (st:=zev) q4h q4i q4j
 have qor:=qne.binds (ps:=["self","block"]) λ_ _ _ _ _ _=>us2 λ_ _=>rfl
 have qnf:=za9 (st:=zd1) q4m q4n q4o
 have qos:=qnf.binds (ps:=["self","block","values"]) λ_ _ _ _ _ _=>us3 λ_ _ _=>rfl
 have qng:=za9 (st:=zcf) q4r q4s q4t
 have qot:=qng.binds (ps:=["self","k"]) λ_ _ _ _ _ _=>us2 λ_ _=>rfl
 have qnh:=za9 (st:=zb0) q4w q4x q4y
 have qou:=qnh.binds (ps:=["self","k"]) λ_ _ _ _ _ _=>us2 λ_ _=>rfl
 have qni:=za9 (st:=zb6) q51 q52 q53
 have qov:=qni.binds (ps:=["self","k"]) λ_ _ _ _ _ _=>us2 λ_ _=>rfl
 have qnj:=za9 (st:=zbh) q56 q57 q58
 have qow:=qnj.binds (ps:=["self","k"]) λ_ _ _ _ _ _=>us2 λ_ _=>rfl
 have qnk:=za9 (st:=zbp) q5b q5c q5d
 have qox:=qnk.binds (ps:=["self","k"]) λ_ _ _ _ _ _=>us2 λ_ _=>rfl
 have qnl:=za9 (st:=zcu) q5g q5h q5i
 have qoy:=qnl.binds (ps:=["self"]) λ_ _ _ _ _ _=>us1 λ_=>rfl
 have qnm:=za9 (st:=zft) q5k q5l q5m
 have qoz:=qnm.binds (ps:=["layout","kind","number"]) λ_ _ _ _ _ _=>us3 λ_ _ _=>rfl
 have qnn:=za9 (st:=zd2) q5p q5q q5r
 have qp0:=qnn.binds (ps:=["self","place"]) λ_ _ _ _ _ _=>us2 λ_ _=>rfl
 have qno:=za9 (st:=zew) q5u q5v q5w
 have qp1:=qno.binds (ps:=["self","block"]) λ_ _ _ _ _ _=>us2 λ_ _=>rfl
 have qnp:=za9 (st:=zdf) q5z q60 q61
 have qp2:=qnp.binds (ps:=["self"]) λ_ _ _ _ _ _=>us1 λ_=>rfl
 have qnq:=za9 (st:=zfu) q63 q64 q65
 have qp3:=qnq.binds (ps:=["layout","kind","k"]) λ_ _ _ _ _ _=>us3 λ_ _ _=>rfl
 have qnr:=za9 (st:=zd3) q68 q69 q6a
 have qp4:=qnr.binds (ps:=["self","place","value","needs"]) λ_ _ _ _ _ _=>us4 λ_ _ _ _=>rfl
 have qns:=za9 (st:=zdg) q6d q6e q6f
 have qp5:=qns.binds (ps:=["self","place"]) λ_ _ _ _ _ _=>us2 λ_ _=>rfl
 have qnt:=za9 (st:=zgk) q6h q6i q6j
 have qp6:=qnt.binds (ps:=["layout","rows","script"]) λ_ _ _ _ _ _=>us3 λ_ _ _=>rfl
 have qnu:=za9 (st:=zex) q6l q6m q6n
 have qp7:=qnu.binds (ps:=["layout","hand","kind"]) λ_ _ _ _ _ _=>us3 λ_ _ _=>rfl
 have qnv:=za9 (st:=zey) q6p q6q q6r
 have qp8:=qnv.binds (ps:=["hold","state","block"]) λ_ _ _ _ _ _=>us3 λ_ _ _=>rfl
 have qnw:=za9 (st:=zd4) q6t q6u q6v
 have qp9:=qnw.binds (ps:=["hold","places","values"]) λ_ _ _ _ _ _=>us3 λ_ _ _=>rfl
 have qnx:=za9 (st:=zez) q6x q6y q6z
 have qpa:=qnx.binds (ps:=["layout","hold","state","cell"]) λ_ _ _ _ _ _=>us4 λ_ _ _ _=>rfl
 have qny:=za9 (st:=zfy) q71 q72 q73
 have qpb:=qny.binds (ps:=["hold","plank","state"]) λ_ _ _ _ _ _=>us3 λ_ _ _=>rfl
 have qnz:=za9 (st:=ze0) q75 q76 q77
 have qpc:=qnz.binds (ps:=["layout","hold"]) λ_ _ _ _ _ _=>us2 λ_ _=>rfl
 have qo0:=za9 (st:=zda) q79 q7a q7b
 have qpd:=qo0.binds (ps:=["layout","hold"]) λ_ _ _ _ _ _=>us2 λ_ _=>rfl
 have qo1:=za9 (st:=zdr) q7d q7e q7f
 have qpe:=qo1.binds (ps:=["layout","hold"]) λ_ _ _ _ _ _=>us2 λ_ _=>rfl
 have qo2:=za9 (st:=zhh) q7h q7i q7j
 have qpf:=qo2.binds (ps:=["kind","layout","hold"]) λ_ _ _ _ _ _=>us3 λ_ _ _=>rfl
 have qo3:=za9 (st:=zfv) q7l q7m q7n
 have qpg:=qo3.binds (ps:=["kind","layout","hold","due"]) λ_ _ _ _ _ _=>us4 λ_ _ _ _=>rfl
 have qo4:=za9 (st:=zcv) q7p q7q q7r
 have qph:=qo4.binds (ps:=["layout","hold","hand","number"]) λ_ _ _ _ _ _=>us4 λ_ _ _ _=>rfl
 have qo5:=za9 (st:=zrs) q7t q7u q7v
 have qpi:=qo5.binds (ps:=["script"]) λ_ _ _ _ _ _=>us1 λ_=>rfl
 refine⟨PySem.W.fnOf "law" "law" (zar zrs) (zap zrs) (zab zrs) .none qd9 qem qfz qlf qhc qip,λs v=>.of_eq rfl,λbase _ _=> ?_⟩
 have qpj:FnOk l.prog w K mg base (cxE l.prog w) 1 q97 _ ["self","place","value","needs"] (zcm K a):=zsf T qmt  (λ_ _ _ _ h=>zpo h) (λ_ _ _ _ h=>zq7 h)
 have qpk:FnOk l.prog w K mg base (cxE l.prog w) 1 q98 _ ["self"] (zb9 K a):=zrk T qmu  (λ_ _ _ _ h=>zn8 h) (λ_ _ _ _ h=>zpq h)
 have qpl:FnOk l.prog w K mg base (cxE l.prog w) 1 q99 _ ["self","numbers"] (zay K a):=zis T qmv  (λ_ _ _ _ h=>zh2 h) (λ_ _ _ _ h=>zib h)
 have qpm:FnOk l.prog w K mg base (cxE l.prog w) 1 q9a _ ["needs","ahead"] (zc3 K a):=zui T qmw  (λ_ _ _ _ h=>zq8 h) (λ_ _ _ _ h=>zr3 h)
 have qpn:FnOk l.prog w K mg base (cxE l.prog w) 1 q9b _ ["self","number","gone"] (zca K a):=zrl T qmx  (λ_ _ _ _ h=>zoa h) (λ_ _ _ _ h=>zpt h)
 have qpo:FnOk l.prog w K mg base (cxE l.prog w) 1 q9c _ ["self","values","block"] (zbs K a):=zoi T qmy  (λ_ _ _ _ h=>zln h) (λ_ _ _ _ h=>zmr h)
 have qpp:FnOk l.prog w K mg base (cxE l.prog w) 1 q9d _ ["self","blocks","cells"] (zc1 K a):=zuk T qmz  (λ_ _ _ _ h=>zq3 h) (λ_ _ _ _ h=>zr0 h)
 have qpq:FnOk l.prog w K mg base (cxE l.prog w) 1 q9e _ ["self"] (za3 K a):=zrn T qn0  (λ_ _ _ _ h=>zn7 h) (λ_ _ _ _ h=>zpn h)
 have qpr:FnOk l.prog w K mg base (cxE l.prog w) 1 q9f _ ["self"] (zbv K a):=zsh T qn1  (λ_ _ _ _ h=>zpl h) (λ_ _ _ _ h=>zq5 h)
 have qps:FnOk l.prog w K mg base (cxE l.prog w) 1 q9g _ ["self"] (zbr K a):=zok T qn2  (λ_ _ _ _ h=>zlm h) (λ_ _ _ _ h=>zmq h)
 have qpt:FnOk l.prog w K mg base (cxE l.prog w) 1 q9h _ ["self","block"] (zao K a):=zi6 T qn3  (λ_ _ _ _ h=>zia h) (λ_ _ _ _ h=>zim h)
 have qpu:FnOk l.prog w K mg base (cxE l.prog w) 1 q9i _ ["self","names","records","pieces","cells"] (zck K a):=zsj T qn4  (λ_ _ _ _ h=>zpv h) (λ_ _ _ _ h=>zrc h)
 have qpv:FnOk l.prog w K mg base (cxE l.prog w) 1 q9j _ ["self"] (zan K a):=zp0 T qn5  (λ_ _ _ _ h=>zmt h) (λ_ _ _ _ h=>zoe h)
 have qpw:FnOk l.prog w K mg base (cxE l.prog w) 1 q9k _ ["self"] (zal K a):=zgi T qn6  (λ_ _ _ _ h=>zgc h) (λ_ _ _ _ h=>zgd h)
 have qpx:FnOk l.prog w K mg base (cxE l.prog w) 1 q9l _ ["self","block","k"] (zam K a):=zkc T qn7  (λ_ _ _ _ h=>zi2 h) (λ_ _ _ _ h=>zjn h)
 have qpy:FnOk l.prog w K mg base (cxE l.prog w) 1 q9m _ ["script","k"] (za5 K a):=zsl T qn8  (λ_ _ _ _ h=>zpk h) (λ_ _ _ _ h=>zq2 h)
 have qpz:FnOk l.prog w K mg base (cxE l.prog w) 1 q9n _ ["cell","turn"] (zat K a):=zxv T qn9  (λ_ _ _ _ h=>zt3 h) (λ_ _ _ _ h=>zv6 h)
 have qq0:FnOk l.prog w K mg base (cxE l.prog w) 1 q9o _ ["kind","number"] (zdm K a):=zwc T qna  (λ_ _ _ _ h=>zr7 h) (λ_ _ _ _ h=>zt8 h)
 have qq1:FnOk l.prog w K mg base (cxE l.prog w) 2 q9p _ ["self","plank"] (zc2 K a):=zwe T qnb ⟨_,_,qpq,⟨q2k,q2l,q2o⟩,qod⟩ (λ_ _ _ _ h=>zr2 h) (λ_ _ _ _ h=>zt4 h)
 have qq2:FnOk l.prog w K mg base (cxE l.prog w) 2 q9q _ ["self","place"] (za0 K a):=zjq T qnc ⟨_,_,qpr,⟨q2p,q2q,q2t⟩,qoe⟩ ⟨_,_,qpq,⟨q2k,q2l,q2o⟩,qod⟩ (λ_ _ _ _ h=>zin h) (λ_ _ _ _ h=>zi1 h)
 have qq3:FnOk l.prog w K mg base (cxE l.prog w) 2 q9r _ ["self","block","taken"] (zcb K a):=zro T qnd ⟨_,_,qpn,⟨q25,q26,q29⟩,qoa⟩ (λ_ _ _ _ h=>zob h) (λ_ _ _ _ h=>zpu h)
 have qq4:FnOk l.prog w K mg base (cxE l.prog w) 2 q9s _ ["self","block"] (zbm K a):=zum T qne ⟨_,_,qpt,⟨q2z,q30,q33⟩,qog⟩ (λ_ _ _ _ h=>zq4 h) (λ_ _ _ _ h=>zr1 h)
 have qq5:FnOk l.prog w K mg base (cxE l.prog w) 2 q9t _ ["self","block","values"] (zbw K a):=zsn T qnf ⟨_,_,qpt,⟨q2z,q30,q33⟩,qog⟩ (λ_ _ _ _ h=>zpm h) (λ_ _ _ _ h=>zq6 h)
 have qq6:FnOk l.prog w K mg base (cxE l.prog w) 2 q9u _ ["self","k"] (za4 K a):=zom T qng ⟨_,_,qpx,⟨q3j,q3k,q3n⟩,qok⟩ (λ_ _ _ _ h=>zlo h) (λ_ _ _ _ h=>zmu h)
 have qq7:FnOk l.prog w K mg base (cxE l.prog w) 2 q9v _ ["self","k"] (zbb K a):=zls T qnh ⟨_,_,qpx,⟨q3j,q3k,q3n⟩,qok⟩ (λ_ _ _ _ h=>zjm h) (λ_ _ _ _ h=>zka h)
 have qq8:FnOk l.prog w K mg base (cxE l.prog w) 2 q9w _ ["self","k"] (zbi K a):=zmz T qni ⟨_,_,qpx,⟨q3j,q3k,q3n⟩,qok⟩ (λ_ _ _ _ h=>zj9 h) (λ_ _ _ _ h=>zlp h)
 have qq9:FnOk l.prog w K mg base (cxE l.prog w) 2 q9x _ ["self","k"] (zau K a):=zjs T qnj ⟨_,_,qpx,⟨q3j,q3k,q3n⟩,qok⟩ ⟨_,_,qpw,⟨q3e,q3f,q3i⟩,qoj⟩ (λ_ _ _ _ h=>zio h) (λ_ _ _ _ h=>zi4 h)
 have qqa:FnOk l.prog w K mg base (cxE l.prog w) 2 q9y _ ["self","k"] (zaw K a):=zke T qnk ⟨_,_,qpx,⟨q3j,q3k,q3n⟩,qok⟩ ⟨_,_,qpw,⟨q3e,q3f,q3i⟩,qoj⟩ (λ_ _ _ _ h=>zi3 h) (λ_ _ _ _ h=>zjo h)
 have qqb:FnOk l.prog w K mg base (cxE l.prog w) 2 q9z _ ["self"] (zb1 K a):=zp2 T qnl ⟨_,_,qpw,⟨q3e,q3f,q3i⟩,qoj⟩ (λ_ _ _ _ h=>zms h) (λ_ _ _ _ h=>zod h)
 have qqc:FnOk l.prog w K mg base (cxE l.prog w) 2 qa0 _ ["layout","kind","number"] (zco K a):=zwf T qnm ⟨_,_,qpv,⟨q39,q3a,q3d⟩,qoi⟩ (λ_ _ _ _ h=>zr6 h) (λ_ _ _ _ h=>zt7 h)
 have qqd:FnOk l.prog w K mg base (cxE l.prog w) 3 qa1 _ ["self","place"] (zbx K a):=zsp T qnn ⟨_,_,qq2,⟨q7z,q46,q49⟩,qop⟩ (λ_ _ _ _ h=>zpp h) (λ_ _ _ _ h=>zq9 h)
 have qqe:FnOk l.prog w K mg base (cxE l.prog w) 3 qa2 _ ["self","block"] (zc4 K a):=zun T qno ⟨_,_,qq4,⟨q4f,q4g,q4j⟩,qor⟩ ⟨_,_,qq3,⟨q4a,q4b,q4e⟩,qoq⟩ ⟨_,_,qq5,⟨q4k,q4l,q4o⟩,qos⟩ ⟨_,_,qpo,⟨q2a,q2b,q2e⟩,qob⟩ (λ_ _ _ _ h=>zrb h) (λ_ _ _ _ h=>zr4 h)
 have qqf:FnOk l.prog w K mg base (cxE l.prog w) 3 qa3 _ ["self"] (zb8 K a):=zrq T qnp ⟨_,_,qqb,⟨q5e,q5f,q5i⟩,qoy⟩ ⟨_,_,qpp,⟨qz,q2f,q2g,q10⟩,PySem.W.mg_of X G qb,qoc⟩ (λ_ _ _ _ h=>zoc h) (λ_ _ _ _ h=>zpw h)
 have qqg:FnOk l.prog w K mg base (cxE l.prog w) 3 qa4 _ ["layout","kind","k"] (zb2 K a):=zwh T qnq ⟨_,_,qq6,⟨q4p,q4q,q4t⟩,qot⟩ ⟨_,_,qq9,⟨q54,q55,q58⟩,qow⟩ ⟨_,_,qqa,⟨q59,q5a,q5d⟩,qox⟩ ⟨_,_,qq7,⟨q4u,q4v,q4y⟩,qou⟩ ⟨_,_,qq8,⟨q4z,q50,q53⟩,qov⟩ (λ_ _ _ _ h=>zr5 h) (λ_ _ _ _ h=>zt6 h)
 have qqh:FnOk l.prog w K mg base (cxE l.prog w) 4 qa5 _ ["self","place","value","needs"] (zcn K a):=zsq T qnr ⟨_,_,qqd,⟨q7x,q5o,q5r⟩,qp0⟩ ⟨_,_,qpl,⟨q7y,q1x,q20⟩,qo8⟩ ⟨_,_,qpm,PySem.W.mg_of X G q21,q24,qo9⟩ ⟨_,_,qpj,⟨qt,q1m,q1n,qu⟩,PySem.W.mg_of X G q9,qo6⟩ (λ_ _ _ _ h=>zpr h) (λ_ _ _ _ h=>zra h)
 have qqi:FnOk l.prog w K mg base (cxE l.prog w) 4 qa6 _ ["self","place"] (zbl K a):=zrr T qns ⟨_,_,qqd,⟨q7x,q5o,q5r⟩,qp0⟩ ⟨_,_,qq4,⟨q4f,q4g,q4j⟩,qor⟩ (λ_ _ _ _ h=>zn9 h) (λ_ _ _ _ h=>zps h)
 have qqj:FnOk l.prog w K mg base (cxE l.prog w) 4 qa7 _ ["layout","rows","script"] (zep K a):=zxw T qnt ⟨_,_,qpv,⟨q39,q3a,q3d⟩,qoi⟩ ⟨_,_,qpy,PySem.W.mg_of X G q3o,q3r,qol⟩ ⟨_,_,qpz,PySem.W.mg_of X G q3s,q3v,qom⟩ ⟨_,_,qqg,PySem.W.mg_of X G q62,q65,qp3⟩ ⟨_,_,qqc,PySem.W.mg_of X G q5j,q5m,qoz⟩ (λ_ _ _ _ h=>zue h) (λ_ _ _ _ h=>zv9 h)
 have qqk:FnOk l.prog w K mg base (cxE l.prog w) 4 qa8 _ ["layout","hand","kind"] (zc5 K a):=zuo T qnu ⟨_,_,qpv,⟨q39,q3a,q3d⟩,qoi⟩ ⟨_,_,qqg,PySem.W.mg_of X G q62,q65,qp3⟩ (λ_ _ _ _ h=>zrg h) (λ_ _ _ _ h=>zsb h)
 have qql:FnOk l.prog w K mg base (cxE l.prog w) 4 qa9 _ ["hold","state","block"] (zdp K a):=zwi T qnv ⟨_,_,qqe,⟨q5s,q5t,q5w⟩,qp1⟩ (λ_ _ _ _ h=>zsd h) (λ_ _ _ _ h=>zuf h)
 have qqm:FnOk l.prog w K mg base (cxE l.prog w) 5 qaa _ ["hold","places","values"] (za6 K a):=zsr T qnw ⟨_,_,qqi,⟨q7w,q6c,q6f⟩,qp5⟩ (λ_ _ _ _ h=>zpx h) (λ_ _ _ _ h=>zrd h)
 have qqn:FnOk l.prog w K mg base (cxE l.prog w) 5 qab _ ["layout","hold","state","cell"] (zc7 K a):=zup T qnx ⟨_,_,qpz,PySem.W.mg_of X G q3s,q3v,qom⟩ ⟨_,_,qpv,⟨q39,q3a,q3d⟩,qoi⟩ ⟨_,_,qqc,PySem.W.mg_of X G q5j,q5m,qoz⟩ ⟨_,_,qq0,PySem.W.mg_of X G q3w,q3z,qon⟩ ⟨_,_,qqg,PySem.W.mg_of X G q62,q65,qp3⟩ ⟨_,_,qqh,⟨q80,q67,q6a⟩,qp4⟩ (λ_ _ _ _ h=>zri h) (λ_ _ _ _ h=>zsc h)
 have qqo:FnOk l.prog w K mg base (cxE l.prog w) 5 qac _ ["hold","plank","state"] (zeq K a):=zxx T qny ⟨_,_,qqi,⟨q7w,q6c,q6f⟩,qp5⟩ ⟨_,_,qq4,⟨q4f,q4g,q4j⟩,qor⟩ ⟨_,_,qps,⟨q2u,q2v,q2y⟩,qof⟩ ⟨_,_,qpk,⟨q81,q1s,q1v⟩,qo7⟩ (λ_ _ _ _ h=>zug h) (λ_ _ _ _ h=>zwa h)
 have qqp:FnOk l.prog w K mg base (cxE l.prog w) 6 qad _ ["layout","hold"] (zdn K a):=zwj T qnz ⟨_,_,qpv,⟨q39,q3a,q3d⟩,qoi⟩ ⟨_,_,qq6,⟨q4p,q4q,q4t⟩,qot⟩ ⟨_,_,qqm,PySem.W.mg_of X G q6s,q6v,qp9⟩ (λ_ _ _ _ h=>zr8 h) (λ_ _ _ _ h=>zub h)
 have qqq:FnOk l.prog w K mg base (cxE l.prog w) 6 qae _ ["layout","hold"] (zcp K a):=zss T qo0 ⟨_,_,qpv,⟨q39,q3a,q3d⟩,qoi⟩ ⟨_,_,qq9,⟨q54,q55,q58⟩,qow⟩ ⟨_,_,qqm,PySem.W.mg_of X G q6s,q6v,qp9⟩ (λ_ _ _ _ h=>zpy h) (λ_ _ _ _ h=>zre h)
 have qqr:FnOk l.prog w K mg base (cxE l.prog w) 6 qaf _ ["layout","hold"] (zc6 K a):=zuq T qo1 ⟨_,_,qpv,⟨q39,q3a,q3d⟩,qoi⟩ ⟨_,_,qqa,⟨q59,q5a,q5d⟩,qox⟩ ⟨_,_,qqm,PySem.W.mg_of X G q6s,q6v,qp9⟩ (λ_ _ _ _ h=>zrf h) (λ_ _ _ _ h=>zr9 h)
 have qqs:FnOk l.prog w K mg base (cxE l.prog w) 7 qag _ ["kind","layout","hold"] (zfx K a):=zzq T qo2 ⟨_,_,qqp,PySem.W.mg_of X G q74,q77,qpc⟩ ⟨_,_,qqq,PySem.W.mg_of X G q78,q7b,qpd⟩ ⟨_,_,qqr,PySem.W.mg_of X G q7c,q7f,qpe⟩ (λ_ _ _ _ h=>zv7 h) (λ_ _ _ _ h=>zxt h)
 have qqt:FnOk l.prog w K mg base (cxE l.prog w) 8 qah _ ["kind","layout","hold","due"] (zdo K a):=zwk T qo3 ⟨_,_,qqs,PySem.W.mg_of X G q7g,q7j,qpf⟩ (λ_ _ _ _ h=>zsa h) (λ_ _ _ _ h=>zuc h)
 have qqu:FnOk l.prog w K mg base (cxE l.prog w) 9 qai _ ["layout","hold","hand","number"] (zbn K a):=zp3 T qo4 ⟨_,_,qqk,PySem.W.mg_of X G q6k,q6n,qp7⟩ ⟨_,_,qqt,PySem.W.mg_of X G q7k,q7n,qpg⟩ (λ_ _ _ _ h=>zmw h) (λ_ _ _ _ h=>zog h)
 have qqv:FnOk l.prog w K mg base (cxE l.prog w) 10 fa _ ["script"] (sp_law K a):=zah7 T qo5 ⟨_,_,qpy,PySem.W.mg_of X G q3o,q3r,qol⟩ ⟨_,_,qpz,PySem.W.mg_of X G q3s,q3v,qom⟩ ⟨_,_,qpu,⟨qx,q34,q35,qy⟩,PySem.W.mg_of X G qc,qoh⟩ ⟨_,_,qqf,⟨q5x,q5y,q61⟩,qp2⟩ ⟨_,_,qpq,⟨q2k,q2l,q2o⟩,qod⟩ ⟨_,_,qpr,⟨q2p,q2q,q2t⟩,qoe⟩ ⟨_,_,qqj,PySem.W.mg_of X G q6g,q6j,qp6⟩ ⟨_,_,qq5,⟨q4k,q4l,q4o⟩,qos⟩ ⟨_,_,qq1,⟨qv,q82,q41,qw⟩,PySem.W.mg_of X G qa,qoo⟩ ⟨_,_,qqu,PySem.W.mg_of X G q7o,q7r,qph⟩ ⟨_,_,qql,PySem.W.mg_of X G q6o,q6r,qp8⟩ ⟨_,_,qqn,PySem.W.mg_of X G q6w,q6z,qpa⟩ ⟨_,_,qqo,PySem.W.mg_of X G q70,q73,qpb⟩ (λ_ _ _ _ h=>zade h) (λ_ _ _ _ h=>zaf3 h)
 exact qqv.imp (λvs H Q E ⟨s,ns,e,hs,hn,q⟩=>⟨s,ns,e,TBk,TPk,TLy,TRm,hs,hn,q⟩)
theorem walk{l:PySem.W.OpenLaw}{q:Program}{loose:List Str}{XP:(Str->Option Value)->Heap->Prop}{YP:World->Heap->Prop}{d:DefRec}{K:Params->PySem.W.Frag}(hn:l.most=some 63)(hdf:d.params.defaults=[])
  (hY:∀ (w:World) (h:Heap),YP w h->(K w.params).In h)
  (F:∀ (w:World) (mg:Str->Option Value) (fa:Addr) (h:Heap),(K w.params).In h->h.Ns mainGlobals mg->mg d.name=some (.ref fa) →
   ∃ fd:FuncData,(∀ (s:Shared) (u:Value),BindsTo s fd ⟨[u],[]⟩ [("script",u)])/\∀ base:Heap,(K w.params).In base->base.Ns mainGlobals mg->FnOk l.prog w (K w.params) mg base (cxE l.prog w) 10 fa fd ["script"] (spL (K w.params))) :
  PySem.W.WalkO q loose XP YP l.row.toRowW d [] (λf vs=>PySem.call f vs) :=
 L2.walk_of (n:=63) (k:=10) (x:="script") (CX:=λw=>cxE l.prog w) (sp:=λw=>spL (K w.params)) hn (by decide) hdf ⟨rfl,by decide,by decide⟩ hY F (λ_ _ a ns hl _ hS=>⟨a,ns,rfl,hS,hl,λ_=>rfl⟩) λ_ _ _ _ _ z=>zadk z
end L2
namespace PySem.W.Fast
def tw12777599800666069645:=()
def tw4392724467887149297:=()
def tw15917023627816749602:=()
def tw5023966785128654146:=()
def tw27793096499253309:=()
def tw4208534686483374676:=()
def tw10532910128492651519:=()
def tw13236169602916052719:=()
def tw17317742321860707567:=()
def tw10208440567908637698:=()
def tw299516429809833454:=()
def tw18114987417410114039:=()
def tw10470655526165866356:=()
def tw17343106640562472930:=()
def tw3804094309966503226:=()
def tw10042417433737481995:=()
def tw2547316805356755566:=()
def tw3150437107131118278:=()
def tw852462310571941160:=()
def tw14784257809562200926:=()
def tw10387876731562536859:=()
def tw16687988687775458714:=()
def tw299888657323494690:=()
def tw17372811101609404036:=()
def tw5460203705496077373:=()
def tw7660251858874586708:=()
def tw7964747478923987380:=()
def tw8504191196579866859:=()
def tw16796525289667001591:=()
def tw4449392464194371491:=()
def tw14796724505062469338:=()
def tw9767983815004835989:=()
def tw11150213924355415695:=()
def tw662527017559262729:=()
def tw4467113634061033365:=()
def tw11063274328524815032:=()
def tw15995044755536413226:=()
def tw7128811742836112168:=()
def tw18010298438337233642:=()
def tw919441696565513421:=()
def tw5957556365283282037:=()
def tw9948933407764120554:=()
def tw3994581999259259429:=()
def tw9879625717177157967:=()
def tw15042705694374380060:=()
def tw1235471481222095092:=()
def tw12368853380758343652:=()
def tw14151583842281279298:=()
def tw13567305607948853825:=()
def tw13209398070818594868:=()
def tw2152786597477813666:=()
def tw7423045775090359634:=()
def tw3809481040317344176:=()
def tw13939426586934333439:=()
def tw11388239625889741001:=()
def tw14445823551123390880:=()
def tw198109090946300598:=()
def tw3884315865987852826:=()
def tw18355839438599044082:=()
def tw3479050980535967944:=()
def tw10894391245139221117:=()
def tw4034771523156913554:=()
def tw17578694264161321155:=()
def tw948762310498071356:=()
def tw5589649732451777019:=()
def tw2869397826256209106:=()
def tw16060321115120236029:=()
def tw17593059625112443741:=()
def tw15849789846262110072:=()
def tw12482813340095585518:=()
def tw4606905285229378341:=()
def tw2614281587455975523:=()
def tw12419356083914341102:=()
def tw12419396118884371464:=()
def tw7306946977404477709:=()
def tw17907984035690284510:=()
def tw460601843464552836:=()
def tw8386989952451915953:=()
def tw17539208084863758569:=()
def tw13990026322959507034:=()
def tw13905671273975060035:=()
def tw9008398010356153145:=()
def tw18097334099930665022:=()
def tw15331055063594783872:=()
def tw17630168630081232363:=()
def tw11525197113774523396:=()
def tw8980756005864168820:=()
def tw10521451086905761906:=()
def tw16438505799068279742:=()
def tw5914118521514217170:=()
def tw4603221664024676083:=()
def tw9885017162419320538:=()
def tw8154219991124525667:=()
def tw18052725335308143348:=()
def tw5333847431696762534:=()
def tw2868917773607192125:=()
def tw8076060574766978806:=()
def tw5320250645041700767:=()
def tw16765300211430407214:=()
def tw11486003656940961500:=()
def tw685493070308063470:=()
def tw1276529285923734154:=()
def tw2176908943983935830:=()
def tw12691748562801374327:=()
def tw15214731906578195083:=()
def tw1081637786682281394:=()
def tw11947503136722889969:=()
def tw17200182763396827142:=()
def tw3471019100571662204:=()
def tw2121850705380140246:=()
def tw2246573172450730204:=()
def tw11311327689068283655:=()
def tw7259468947608247272:=()
def tw18355941455529294831:=()
def tw13323876505688141206:=()
def tw7938926810863452541:=()
def tw2303043538175574404:=()
def tw17391877259603842277:=()
def tw9397921325245101445:=()
def tw7362129517890718891:=()
def tw8002876630232094923:=()
def tw6021484238525966840:=()
def tw4966257668843459637:=()
def tw17258903652881243951:=()
def tw3961575136372750229:=()
def tw11334411435285492624:=()
def tw1526900377635690867:=()
def tw831637268045883965:=()
def tw3113930726177062814:=()
def tw12775658428762854470:=()
def tw14596124231807141825:=()
def tw11114098799467338207:=()
def tw11191940917024643966:=()
def tw15033081419086885009:=()
def tw7212406738095070652:=()
def tw12583739213893388530:=()
def tw7911009691325411125:=()
def tw13458572795736075145:=()
def tw17087552786282290316:=()
def tw1070990601112592240:=()
def tw11834660316565673083:=()
def tw11604527932499807929:=()
def tw6536173967335859317:=()
def tw141245713932771676:=()
def tw12074674511189775227:=()
def tw6141024638245338100:=()
def tw6023200717016069032:=()
def tw16352754646170482951:=()
def tw14606224069785601096:=()
def tw17254378772580016313:=()
def tw1464992864942365803:=()
def tw15591086560665368152:=()
def tw13559834032165768154:=()
def tw1102666552834441664:=()
def tw3922035398704529325:=()
def tw6785358892957001526:=()
def tw1635191096437583483:=()
def tw4444102851350231503:=()
def tw7341151738596644821:=()
def tw3813540756770166986:=()
def tw18419144119901579186:=()
def tw2662035410360106754:=()
def tw5340808969036127135:=()
def tw10439098648380823824:=()
def tw5377494306704144848:=()
def tw17477134918232846801:=()
def tw3319235578128838325:=()
def tw1271889735482405280:=()
def tw13605846324874430551:=()
def tw5570971084591531268:=()
def tw14563060290108121699:=()
def tw18195441645713195432:=()
def tw8928598944534895275:=()
def tw10139912061224513283:=()
def tw8918842779208781951:=()
def tw6005125107976499194:=()
def tw3691763776582393865:=()
def tw11044358526070792443:=()
def tw7996978287004118876:=()
def tw4455078670638837877:=()
def tw16914731533458631209:=()
def tw3680391469329979368:=()
def tw1774010705125637576:=()
def tw18288234759386192820:=()
def tw18285246296749035998:=()
def tw85577737600380768:=()
def tw18072624895201260166:=()
def tw9084874083272721395:=()
def tw10015744653722645263:=()
def tw8939628858953439207:=()
def tw13465252341339257903:=()
def tw13174108192150874768:=()
def tw4089880060277477391:=()
def tw11742625281980121768:=()
def tw6730888207454847894:=()
def tw18064755964061532458:=()
def tw8743228718714237128:=()
def tw13441797593704343003:=()
def tw268536977286539405:=()
def tw13524649889230941723:=()
def tw10946357295161632719:=()
def tw221943318629457997:=()
def tw14354845071625930375:=()
def tw15241529354280206354:=()
def tw17686364306330189121:=()
def tw17011548329550986200:=()
def tw3693220305085144473:=()
def tw3945633159914177774:=()
def tw17785926048207960756:=()
def tw17474023976826255789:=()
def tw11561303685042523192:=()
def tw1989410339221183411:=()
def tw8564093056586518530:=()
def tw1549205648498383468:=()
def tw6556505351336576970:=()
def tw14704691144233390681:=()
def tw11201442090311102833:=()
def tw2288902373782444069:=()
def tw17222532907993600627:=()
def tw12116690198668794937:=()
def tw11525256210688034463:=()
def tw5136552989621847553:=()
def tw15433774709970142131:=()
def tw10175944468969161204:=()
def tw15715900274783781866:=()
def tw16971930877003321082:=()
def tw18415379372464199857:=()
def tw15131019647376252878:=()
def tw9261814871233153211:=()
def tw13131195348005638811:=()
def tw9856215443968291052:=()
def tw18196460566211157757:=()
def tw15617366092772470037:=()
def tw16502587849004809124:=()
def tw15039844194400452505:=()
def tw713798307106331180:=()
def tw14787137077372453519:=()
def tw780504339996377017:=()
def tw5742492801802546116:=()
def tw5572455186068117096:=()
def tw1434118528380784624:=()
def tw15811040571375142993:=()
def tw1433456843436243632:=()
def tw15498325003132953243:=()
def tw4132691549393718229:=()
def tw12353471200940983261:=()
def tw10693655706341072921:=()
def tw17200068170823895416:=()
def tw565943561470942720:=()
def tw16685703996404755234:=()
def tw12743519204838968089:=()
def tw16786839067309269536:=()
def tw5726372445800714053:=()
def tw8648401304301731603:=()
def tw11000438974459553831:=()
def tw9593369068992059643:=()
def tw17333483260277499994:=()
def tw11620661285700909155:=()
def tw9685795795839453284:=()
def tw3669401119123364345:=()
def tw10869753112040926757:=()
def tw14488120830452682667:=()
def tw12900031487884659746:=()
def tw5474160896162198003:=()
def tw1747902738538358616:=()
def tw4136420153924247368:=()
def tw8068891627289414697:=()
def tw1265106643289343598:=()
def tw15466390842360385994:=()
def tw17522919797395954065:=()
def tw15097105518792340954:=()
def tw634160579919847666:=()
def tw1091954440571606239:=()
def tw12829270344463578945:=()
def tw14678879118668068171:=()
def tw10071903242804128307:=()
def tw13589369835980239382:=()
def tw16219897171469394658:=()
def tw12167375094002482650:=()
def tw10909626736611286348:=()
def tw2674244094757761849:=()
def tw895559448053357250:=()
def tw15244962332639180024:=()
def tw17066954934112235450:=()
def tw3259441439551348380:=()
def tw16739592746937341347:=()
def tw2978946018734997423:=()
def tw13663716369588941760:=()
def tw17278057405585520472:=()
def tw9134868603494825591:=()
def tw15866917553106401320:=()
def tw6186135227396690915:=()
def tw11748237772328620665:=()
def tw16005240326524036914:=()
def tw3949563974748075770:=()
def tw6415626371976200422:=()
def tw6101873004387619543:=()
def tw15792469645789857682:=()
def tw5254694698551610748:=()
def tw17814750121825570193:=()
def tw12914649464008802049:=()
def tw32255000282322712:=()
def tw16347132605101185593:=()
def tw380731030683011052:=()
def tw14847114117913234339:=()
def tw16418352917693009618:=()
def tw5174076598624757350:=()
def tw8378625763400529434:=()
def tw13471878324262109296:=()
def tw16080556449796203784:=()
def tw16886009184495616941:=()
def tw13040672924858604270:=()
def tw3700014994830104014:=()
def tw2299679499277773141:=()
def tw2363030152407340777:=()
def tw10742754930974095812:=()
def tw4932510015177534346:=()
def tw3221459646552947015:=()
def tw16266837124415614804:=()
def tw17410039819825093083:=()
def tw12236757807831489076:=()
def tw7118709433421802916:=()
def tw16589995401997492418:=()
def tw17082458627741406510:=()
def tw6014860334759196210:=()
def tw15674990045986351657:=()
def tw802197347340534809:=()
def tw914121384018457535:=()
def tw8464360665751812946:=()
def tw11248799820351020164:=()
def tw16236653897521144915:=()
def tw8495805164971947051:=()
def tw12784636252164886146:=()
def tw9868724992986806847:=()
def tw2633436906542394855:=()
def tw13761047496231590614:=()
def tw4087138665222747850:=()
def tw2632721885114735735:=()
def tw6516363448128704016:=()
def tw15707637458892226396:=()
def tw119131056761155234:=()
def tw5840607078839900271:=()
def tw4178280227145622862:=()
def tw7305352330472554585:=()
def tw18029807059002022223:=()
def tw10842205746331871075:=()
def tw1432236245611059071:=()
def tw17688497521502864854:=()
def tw14960632647732248640:=()
def tw11253465136292680170:=()
def tw548571479605074136:=()
def tw3836812180560356748:=()
def tw10368696940331421277:=()
def tw8031148616341122475:=()
def tw9019618301195696483:=()
def tw4492504509387109098:=()
def tw7285370568614283867:=()
def tw5915870470631091336:=()
def tw3449950117538920241:=()
def tw712962652385479419:=()
def tw11515371207526334455:=()
def tw2342171335598984499:=()
def tw13275887713071472329:=()
def tw9539728366975496917:=()
def tw2556122315536006517:=()
def tw4652739182142225222:=()
def tw365461761778037134:=()
def tw8955955332338172095:=()
def tw14396122511743867203:=()
def tw9318675397681928820:=()
def tw7967810371141199098:=()
def tw16830388593094218017:=()
def tw10569830045468554412:=()
def tw13898813344276492972:=()
def tw2966287273831014842:=()
def tw5200504774255056372:=()
def tw13207962214718572029:=()
def tw3384199688915658324:=()
def tw15958135200030831194:=()
def tw8076572714866402045:=()
def tw11748834559474657454:=()
def tw5679567716133330503:=()
def tw3461445417917884988:=()
def tw15764553188177579442:=()
def tw16270245736695186240:=()
def tw4513264037273444567:=()
def tw77532358717092584:=()
def tw5136276207090082215:=()
def tw1525024398078577306:=()
def tw16629999544719392464:=()
def tw4989790958371123112:=()
def tw8420897400345843921:=()
def tw14128766966459768287:=()
def tw15764579532081493626:=()
def tw8540304221175924213:=()
def tw8048736218459759412:=()
def tw6148180779284862690:=()
def tw685954418628430046:=()
def tw5981946338992132467:=()
def tw4093476655434298108:=()
def tw2192056383640361603:=()
def tw15804692140003390092:=()
def tw11572619277537195468:=()
def tw16068373677233502813:=()
def tw13433692020643183180:=()
def tw4089442308276878386:=()
def tw12297362012966292218:=()
def tw1176763193125536397:=()
def tw777073981726053889:=()
def tw9507880299605482462:=()
def tw8202887484893805780:=()
def tw5890280006709815719:=()
def tw14570512767533063708:=()
def tw16855511654107761838:=()
def tw17816834645136894425:=()
def tw10058613790836950484:=()
def tw10037795781569842862:=()
def tw1620549122789952363:=()
def tw5861434710116179291:=()
def tw13211201294396546755:=()
def tw11567495886660389117:=()
def tw805662268057573434:=()
def tw6596326318184256511:=()
def tw3164496726187533601:=()
def tw3191100071366354763:=()
def tw3107979137750507383:=()
def tw13187657752796311215:=()
def tw2891225845724336403:=()
def tw7711688735405611864:=()
def tw4530516689313000559:=()
def tw1735771338568760265:=()
def tw910621398769890776:=()
def tw6525032858779467601:=()
def tw10745713511055820161:=()
def tw12339770590781911803:=()
def tw10868900859109687970:=()
def tw2669089831769467053:=()
def tw15682010142709313792:=()
def tw2356243740661363408:=()
def tw9294193879029011711:=()
def tw14806335801673621681:=()
def tw15138076104120552802:=()
def tw16632881399714854970:=()
def tw14510214154573717348:=()
def tw9044237945919085921:=()
def tw17911522360458781395:=()
def tw8062251340385792985:=()
def tw11937926514701272823:=()
def tw18412187165306051707:=()
def tw10921525427387670099:=()
def tw15206839820862578287:=()
def tw17007876010778217991:=()
def tw8305993040444489327:=()
def tw16878291879453078342:=()
def tw15109561788065592573:=()
def tw6007946569988149255:=()
def tw3268527089476190125:=()
def tw13015345137791336164:=()
def tw7629788388210767687:=()
def tw4662342562099509108:=()
def tw2681925851251406621:=()
def tw1872119511841219139:=()
def tw10163838214818388661:=()
def tw18019434404056545123:=()
def tw14931988491960521741:=()
def tw3286042140878619534:=()
def tw6204621311956434719:=()
def tw13815569067739778394:=()
def tw9487012294830108466:=()
def tw10316494272780140706:=()
def tw14711283769879655472:=()
def tw911582046695148561:=()
def tw7378306164824055415:=()
def tw3333016442692769303:=()
def tw8887188140774563753:=()
def tw14673866430029144644:=()
def tw16371206645827883372:=()
def tw7692552872705500813:=()
def tw9668623943874343090:=()
def tw12967347329971939252:=()
def tw15655566524858902534:=()
def tw1887934447483871799:=()
def tw5706577569893599375:=()
def tw11600295919632267324:=()
def tw675850917039983520:=()
def tw12488356077047437629:=()
def tw3411737905765586933:=()
def tw13142582141737668741:=()
def tw14591661184083760473:=()
def tw999059970039824035:=()
def tw15128217319032985198:=()
def tw17247443041467264719:=()
def tw8094488641688999882:=()
def tw3649009999191556109:=()
def tw11891991238108208105:=()
def tw13252597879675764404:=()
def tw18387705675441079372:=()
def tw12533383113635527345:=()
def tw13418429321299363075:=()
def tw8016749380372438287:=()
def tw9029316384320568162:=()
def tw6451920488042103017:=()
end PySem.W.Fast
open PySem PySem.W PyProof.Rows
set_option Elab.async false
set_option maxRecDepth 100000 in
set_option maxHeartbeats 0 in
theorem PySem.Challenge.cw_holdback_k33_lowest_free_holds : PySem.Challenge.rw_holdback_k33_lowest_free.Holds := by
 w_on;o_law;k_head;(case hw=>w_witness2)
 k_fill
 refine L2.walk (l:=PySem.Challenge.rw_holdback_k33_lowest_free) rfl rfl (λw h Y=>PySem.W.kIn_of Y) ?F
 case F =>
  intro w mg fa h KX G hmg
  refine' L2.all_mk KX G hmg ?q0 ?q1 ?q2 ?q3 ?q4 ?q5 ?q6 ?q7 ?q8 ?q9 ?qa ?qb ?qc ?qd ?qe ?qf ?qg ?qh ?qi ?qj ?qk ?ql ?qm ?qn ?qo ?qp ?qq ?qr ?qs ?qt ?qu ?qv ?qw ?qx ?qy ?qz ?q10 ?q11 ?q12 ?q13 ?q14 ?q15 ?q16 ?q17 ?q18 ?q19 ?q1a ?q1b ?q1c ?q1d ?q1e ?q1f ?q1g ?q1h ?q1i ?q1j ?q1k ?q1l ?q1m ?q1n ?q1o ?q1p ?q1q ?q1r ?q1s ?q1t ?q1u ?q1v ?q1w ?q1x ?q1y ?q1z ?q20 ?q21 ?q22 ?q23 ?q24 ?q25 ?q26 ?q27 ?q28 ?q29 ?q2a ?q2b ?q2c ?q2d ?q2e ?q2f ?q2g ?q2h ?q2i ?q2j ?q2k ?q2l ?q2m ?q2n ?q2o ?q2p ?q2q ?q2r ?q2s ?q2t ?q2u ?q2v ?q2w ?q2x ?q2y ?q2z ?q30 ?q31 ?q32 ?q33 ?q34 ?q35 ?q36 ?q37 ?q38 ?q39 ?q3a ?q3b ?q3c ?q3d ?q3e ?q3f ?q3g ?q3h ?q3i ?q3j ?q3k ?q3l ?q3m ?q3n ?q3o ?q3p ?q3q ?q3r ?q3s ?q3t ?q3u ?q3v ?q3w ?q3x ?q3y ?q3z ?q40 ?q41 ?q42 ?q43 ?q44 ?q45 ?q46 ?q47 ?q48 ?q49 ?q4a ?q4b ?q4c ?q4d ?q4e ?q4f ?q4g ?q4h ?q4i ?q4j ?q4k ?q4l ?q4m ?q4n ?q4o ?q4p ?q4q ?q4r ?q4s ?q4t ?q4u ?q4v ?q4w ?q4x ?q4y ?q4z ?q50 ?q51 ?q52 ?q53 ?q54 ?q55 ?q56 ?q57 ?q58 ?q59 ?q5a ?q5b ?q5c ?q5d ?q5e ?q5f ?q5g ?q5h ?q5i ?q5j ?q5k ?q5l ?q5m ?q5n ?q5o ?q5p ?q5q ?q5r ?q5s ?q5t ?q5u ?q5v ?q5w ?q5x ?q5y ?q5z ?q60 ?q61 ?q62 ?q63 ?q64 ?q65 ?q66 ?q67 ?q68 ?q69 ?q6a ?q6b ?q6c ?q6d ?q6e ?q6f ?q6g ?q6h ?q6i ?q6j ?q6k ?q6l ?q6m ?q6n ?q6o ?q6p ?q6q ?q6r ?q6s ?q6t ?q6u ?q6v ?q6w ?q6x ?q6y ?q6z ?q70 ?q71 ?q72 ?q73 ?q74 ?q75 ?q76 ?q77 ?q78 ?q79 ?q7a ?q7b ?q7c ?q7d ?q7e ?q7f ?q7g ?q7h ?q7i ?q7j ?q7k ?q7l ?q7m ?q7n ?q7o ?q7p ?q7q ?q7r ?q7s ?q7t ?q7u ?q7v ?q7w ?q7x ?q7y ?q7z ?q80 ?q81 ?q82 ?q83 ?q84 ?q85 ?q86 ?q87 ?q88 ?q89 ?q8a ?q8b ?q8c ?q8d ?q8e ?q8f ?q8g ?q8h ?q8i ?q8j ?q8k ?q8l ?q8m ?q8n ?q8o ?q8p ?q8q ?q8r ?q8s ?q8t
  (case q0=>k_is)
  (case q1=>k_is)
  (case q2=>k_is)
  (case q3=>k_is)
  (case q4=>k_is)
  (case q5=>k_is)
  (case q6=>k_is)
  (case q7=>k_is)
  (case q8=>k_is)
  (case q9=>k_is)
  (case qa=>k_is)
  (case qb=>k_is)
  (case qc=>k_is)
  (case qd=>k_is)
  (case qe=>k_is)
  (case qf=>k_is)
  (case qg=>k_is)
  (case qh=>k_is)
  (case qi=>k_is)
  (case qj=>k_is)
  (case qk=>k_is)
  (case ql=>k_is)
  (case qm=>k_is)
  (case qn=>k_is)
  (case qo=>k_is)
  (case qp=>k_is)
  (case qq=>k_is)
  (case qr=>k_is)
  (case qs=>k_is)
  (case qt=>k_is)
  (case qu=>k_is)
  (case qv=>k_is)
  (case qw=>k_is)
  (case qx=>k_is)
  (case qy=>k_is)
  (case qz=>k_is)
  (case q10=>k_is)
  (case q11=>k_exc)
  (case q12=>k_exc)
  (case q13=>k_exc)
  (case q14=>k_exc)
  (case q15=>k_exc)
  (case q16=>k_exc)
  (case q17=>k_exc)
  (case q18=>k_exc)
  (case q19=>k_exc)
  (case q1a=>k_is)
  (case q1b=>k_is)
  (case q1c=>k_is)
  (case q1d=>k_is)
  (case q1e=>k_is)
  (case q1f=>k_is)
  (case q1g=>k_is)
  (case q1h=>k_is)
  (case q1i=>k_is)
  (case q1j=>k_is)
  (case q1k=>k_is)
  (case q1l=>k_is)
  (case q1m=>k_is)
  (case q1n=>k_is)
  (case q1o=>k_is)
  (case q1p=>k_is)
  (case q1q=>k_is)
  (case q1r=>k_is)
  (case q1s=>k_is)
  (case q1t=>k_is)
  (case q1u=>k_is)
  (case q1v=>k_is)
  (case q1w=>k_is)
  (case q1x=>k_is)
  (case q1y=>k_is)
  (case q1z=>k_is)
  (case q20=>k_is)
  (case q21=>k_is)
  (case q22=>k_is)
  (case q23=>k_is)
  (case q24=>k_is)
  (case q25=>k_is)
  (case q26=>k_is)
  (case q27=>k_is)
  (case q28=>k_is)
  (case q29=>k_is)
  (case q2a=>k_is)
  (case q2b=>k_is)
  (case q2c=>k_is)
  (case q2d=>k_is)
  (case q2e=>k_is)
  (case q2f=>k_is)
  (case q2g=>k_is)
  (case q2h=>k_is)
  (case q2i=>k_is)
  (case q2j=>k_is)
  (case q2k=>k_is)
  (case q2l=>k_is)
  (case q2m=>k_is)
  (case q2n=>k_is)
  (case q2o=>k_is)
  (case q2p=>k_is)
  (case q2q=>k_is)
  (case q2r=>k_is)
  (case q2s=>k_is)
  (case q2t=>k_is)
  (case q2u=>k_is)
  (case q2v=>k_is)
  (case q2w=>k_is)
  (case q2x=>k_is)
  (case q2y=>k_is)
  (case q2z=>k_is)
  (case q30=>k_is)
  (case q31=>k_is)
  (case q32=>k_is)
  (case q33=>k_is)
  (case q34=>k_is)
  (case q35=>k_is)
  (case q36=>k_is)
  (case q37=>k_is)
  (case q38=>k_is)
  (case q39=>k_is)
  (case q3a=>k_is)
  (case q3b=>k_is)
  (case q3c=>k_is)
  (case q3d=>k_is)
  (case q3e=>k_is)
  (case q3f=>k_is)
  (case q3g=>k_is)
  (case q3h=>k_is)
  (case q3i=>k_is)
  (case q3j=>k_is)
  (case q3k=>k_is)
  (case q3l=>k_is)
  (case q3m=>k_is)
  (case q3n=>k_is)
  (case q3o=>k_is)
  (case q3p=>k_is)
  (case q3q=>k_is)
  (case q3r=>k_is)
  (case q3s=>k_is)
  (case q3t=>k_is)
  (case q3u=>k_is)
  (case q3v=>k_is)
  (case q3w=>k_is)
  (case q3x=>k_is)
  (case q3y=>k_is)
  (case q3z=>k_is)
  (case q40=>k_is)
  (case q41=>k_is)
  (case q42=>k_is)
  (case q43=>k_is)
  (case q44=>k_is)
  (case q45=>k_is)
  (case q46=>k_is)
  (case q47=>k_is)
  (case q48=>k_is)
  (case q49=>k_is)
  (case q4a=>k_is)
  (case q4b=>k_is)
  (case q4c=>k_is)
  (case q4d=>k_is)
  (case q4e=>k_is)
  (case q4f=>k_is)
  (case q4g=>k_is)
  (case q4h=>k_is)
  (case q4i=>k_is)
  (case q4j=>k_is)
  (case q4k=>k_is)
  (case q4l=>k_is)
  (case q4m=>k_is)
  (case q4n=>k_is)
  (case q4o=>k_is)
  (case q4p=>k_is)
  (case q4q=>k_is)
  (case q4r=>k_is)
  (case q4s=>k_is)
  (case q4t=>k_is)
  (case q4u=>k_is)
  (case q4v=>k_is)
  (case q4w=>k_is)
  (case q4x=>k_is)
  (case q4y=>k_is)
  (case q4z=>k_is)
  (case q50=>k_is)
  (case q51=>k_is)
  (case q52=>k_is)
  (case q53=>k_is)
  (case q54=>k_is)
  (case q55=>k_is)
  (case q56=>k_is)
  (case q57=>k_is)
  (case q58=>k_is)
  (case q59=>k_is)
  (case q5a=>k_is)
  (case q5b=>k_is)
  (case q5c=>k_is)
  (case q5d=>k_is)
  (case q5e=>k_is)
  (case q5f=>k_is)
  (case q5g=>k_is)
  (case q5h=>k_is)
  (case q5i=>k_is)
  (case q5j=>k_is)
  (case q5k=>k_is)
  (case q5l=>k_is)
  (case q5m=>k_is)
  (case q5n=>k_is)
  (case q5o=>k_is)
  (case q5p=>k_is)
  (case q5q=>k_is)
  (case q5r=>k_is)
  (case q5s=>k_is)
  (case q5t=>k_is)
  (case q5u=>k_is)
  (case q5v=>k_is)
  (case q5w=>k_is)
  (case q5x=>k_is)
  (case q5y=>k_is)
  (case q5z=>k_is)
  (case q60=>k_is)
  (case q61=>k_is)
  (case q62=>k_is)
  (case q63=>k_is)
  (case q64=>k_is)
  (case q65=>k_is)
  (case q66=>k_is)
  (case q67=>k_is)
  (case q68=>k_is)
  (case q69=>k_is)
  (case q6a=>k_is)
  (case q6b=>k_is)
  (case q6c=>k_is)
  (case q6d=>k_is)
  (case q6e=>k_is)
  (case q6f=>k_is)
  (case q6g=>k_is)
  (case q6h=>k_is)
  (case q6i=>k_is)
  (case q6j=>k_is)
  (case q6k=>k_is)
  (case q6l=>k_is)
  (case q6m=>k_is)
  (case q6n=>k_is)
  (case q6o=>k_is)
  (case q6p=>k_is)
  (case q6q=>k_is)
  (case q6r=>k_is)
  (case q6s=>k_is)
  (case q6t=>k_is)
  (case q6u=>k_is)
  (case q6v=>k_is)
  (case q6w=>k_is)
  (case q6x=>k_is)
  (case q6y=>k_is)
  (case q6z=>k_is)
  (case q70=>k_is)
  (case q71=>k_is)
  (case q72=>k_is)
  (case q73=>k_is)
  (case q74=>k_is)
  (case q75=>k_is)
  (case q76=>k_is)
  (case q77=>k_is)
  (case q78=>k_is)
  (case q79=>k_is)
  (case q7a=>k_is)
  (case q7b=>k_is)
  (case q7c=>k_is)
  (case q7d=>k_is)
  (case q7e=>k_is)
  (case q7f=>k_is)
  (case q7g=>k_is)
  (case q7h=>k_is)
  (case q7i=>k_is)
  (case q7j=>k_is)
  (case q7k=>k_is)
  (case q7l=>k_is)
  (case q7m=>k_is)
  (case q7n=>k_is)
  (case q7o=>k_is)
  (case q7p=>k_is)
  (case q7q=>k_is)
  (case q7r=>k_is)
  (case q7s=>k_is)
  (case q7t=>k_is)
  (case q7u=>k_is)
  (case q7v=>k_is)
  (case q7w=>k_is)
  (case q7x=>k_is)
  (case q7y=>k_is)
  (case q7z=>k_is)
  (case q80=>k_is)
  (case q81=>k_is)
  (case q82=>k_is)
  (case q83=>k_is)
  (case q84=>k_is)
  (case q85=>k_is)
  (case q86=>k_is)
  (case q87=>k_is)
  (case q88=>k_is)
  (case q89=>k_is)
  (case q8a=>k_is)
  (case q8b=>k_is)
  (case q8c=>k_is)
  (case q8d=>k_is)
  (case q8e=>k_is)
  (case q8f=>k_is)
  (case q8g=>k_is)
  (case q8h=>k_is)
  (case q8i=>k_is)
  (case q8j=>k_is)
  (case q8k=>k_is)
  (case q8l=>k_is)
  (case q8m=>k_is)
  (case q8n=>k_is)
  (case q8o=>k_is)
  (case q8p=>k_is)
  (case q8q=>kts_exm)
  (case q8r=>kit_is)
  (case q8s=>kit_is)
  (case q8t=>kit_is)
